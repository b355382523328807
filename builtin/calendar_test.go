package builtin_test

import (
	"math"
	"slices"
	"testing"

	"computus/api"
	"computus/builtin"
	"computus/easter"
	"computus/gauss"
	"computus/gregorian"
	"computus/ordo"
	"computus/weekday"
)

// kindOfYear is a year with the date of its Easter.
type kindOfYear struct {
	year   int
	easter monthDay
	leap   bool
}

// yearsOfEaster returns, for each date of Easter from 22 March to 25 April, the
// first common year and the first leap year that have it. The calendar of a year
// depends on nothing but these two: Easter is a Sunday, so its date and the length
// of February determine the days of the week of all dates.
func yearsOfEaster(t *testing.T) []kindOfYear {
	t.Helper()
	var l []kindOfYear
	seen := map[kindOfYear]bool{}
	for year := api.FirstGregorian; len(l) < 70; year++ {
		d, errno := gauss.Date(api.Gregorian, year)
		if errno != api.OK {
			t.Fatalf("Easter of %d: error %v", year, errno)
		}
		kind := kindOfYear{easter: monthDay{d.Month, d.Day}, leap: gregorian.Leap(year)}
		if !seen[kind] {
			seen[kind] = true
			kind.year = year
			l = append(l, kind)
		}
	}
	return l
}

// calendarOf returns the calendar of a year.
func calendarOf(t *testing.T, year int) api.Calendar {
	t.Helper()
	k, errno := ordo.Build(builtin.Catalogue(), year)
	if errno != api.OK || k.Year != year {
		t.Fatalf("Build(%d) = a calendar of %d, error %v", year, k.Year, errno)
	}
	return k
}

// entryOf returns the entry of a date in a calendar.
func entryOf(t *testing.T, k api.Calendar, month, day int) api.Entry {
	t.Helper()
	e, ok := ordo.Entry(k, month, day)
	if !ok {
		t.Fatalf("%d has no entry for %d-%d", k.Year, month, day)
	}
	return e
}

// expectLength tests that a calendar has an entry for each day.
func expectLength(t *testing.T, k api.Calendar) {
	t.Helper()
	want := 365
	if gregorian.Leap(k.Year) {
		want = 366
	}
	if len(k.Entries) != want {
		t.Errorf("%d has %d entries, want %d", k.Year, len(k.Entries), want)
	}
}

// manyYears lists the first and the last years of the range, and years in between,
// some of them many years apart.
func manyYears() []int {
	var l []int
	for i := range 450 {
		l = append(l, api.FirstGregorian+i)
	}
	for i := range 50 {
		l = append(l, api.MaxYear-i, 2000+i*i*i*7919, 400*(i+4))
	}
	return l
}

// P24.2: there is a calendar for the first and the last year.
func TestCalendarsOfTheEndsOfTheRange(t *testing.T) {
	for _, year := range []int{api.FirstGregorian, api.FirstGregorian + 1, api.MaxYear - 1, api.MaxYear} {
		expectLength(t, calendarOf(t, year))
	}
}

// P24.2: there is a calendar for years with each date of Easter, for common years
// and for leap years; and hence for all years.
func TestCalendarsOfEachDateOfEaster(t *testing.T) {
	dates := map[monthDay]int{}
	for _, x := range yearsOfEaster(t) {
		expectLength(t, calendarOf(t, x.year))
		dates[x.easter]++
	}
	for i := range 35 {
		d := monthDay{3, 22 + i}
		if i >= 10 {
			d = monthDay{4, i - 9}
		}
		if dates[d] != 2 {
			t.Errorf("there are %d years with Easter on %v", dates[d], d)
		}
	}
}

// P24.2: there is a calendar for many other years.
func TestCalendarsOfManyYears(t *testing.T) {
	for _, year := range manyYears() {
		expectLength(t, calendarOf(t, year))
	}
}

// P24.2: years out of range have no calendar, which is not the fault of the
// catalogue.
func TestYearsOutOfRange(t *testing.T) {
	for _, year := range []int{api.FirstGregorian - 1, api.MaxYear + 1, 1, 0, -1, -2024, 2 * api.MaxYear, math.MinInt, math.MaxInt} {
		k, errno := ordo.Build(builtin.Catalogue(), year)
		if errno != api.ErrRange || k.Year != 0 || len(k.Entries) != 0 {
			t.Errorf("Build(%d) = a calendar of %d with %d entries, error %v", year, k.Year, len(k.Entries), errno)
		}
	}
}

// P24.1 and P24.2: the days of Holy Week, Easter Sunday and its octave have no
// principal celebration but that of their season.
func TestHolyWeekAndEasterOctave(t *testing.T) {
	for _, x := range yearsOfEaster(t) {
		k := calendarOf(t, x.year)
		first, _ := gregorian.First(x.year)
		paschal, _ := easter.Day(api.Gregorian, x.year)
		for distance := -7; distance <= 7; distance++ {
			e, want := k.Entries[paschal+distance-first], "holy-week"
			if distance >= 0 {
				want = "easter-octave"
			}
			if e.Kind != api.Temporal || e.Principal != want || e.Season != want || e.Rank != 1 {
				t.Errorf("%d days after Easter: %+v, want %s", distance, e, want)
			}
		}
		for distance, want := range map[int]string{-8: "lent", 8: "eastertide"} {
			if e := k.Entries[paschal+distance-first]; e.Season != want {
				t.Errorf("%d days after Easter: %+v, want %s", distance, e, want)
			}
		}
	}
}

// P24.1 and P24.2: feasts of the first rank are the principal celebrations of their
// days, and no season is in their way.
func TestPrincipalFeasts(t *testing.T) {
	for _, x := range yearsOfEaster(t) {
		k := calendarOf(t, x.year)
		for _, id := range []string{
			"mary-mother-of-god", "epiphany", "baptism-of-the-lord", "presentation", "ascension", "pentecost", "trinity", "corpus-christi",
			"sacred-heart", "transfiguration", "assumption", "exaltation-of-the-cross", "all-saints", "all-souls", "christ-the-king",
			"immaculate-conception", "nativity",
		} {
			d := dateOf(t, id, x.year)
			e := entryOf(t, k, d.month, d.day)
			if e.Kind != api.Proper || e.Principal != id {
				t.Errorf("entry = %+v, want %s", e, id)
			}
		}
		if e := entryOf(t, k, 12, 25); e.Principal != "nativity" || e.Rank != 1 || e.Season != "christmas" || len(e.Commem)+len(e.Omitted) > 0 {
			t.Errorf("25 December: %+v", e)
		}
	}
}

// wantMoves returns the feasts that are moved in a year with an Easter, with the
// dates to which they are moved.
func wantMoves(paschal monthDay) map[string]monthDay {
	// The days after the octave, from Monday on, are free.
	afterOctave := func(n int) monthDay {
		if paschal.month == 4 {
			return monthDay{4, paschal.day + 8 + n}
		}
		if day := paschal.day + 8 + n; day <= 31 {
			return monthDay{3, day}
		}
		return monthDay{4, paschal.day + 8 + n - 31}
	}
	moves := map[string]monthDay{}
	if paschal.month == 3 && paschal.day <= 26 { // 19 March is in Holy Week.
		moves["joseph"] = afterOctave(0)
	}
	if paschal.month == 3 || paschal.day == 1 { // 25 March is in Holy Week or in the octave.
		moves["annunciation"] = afterOctave(len(moves))
	}
	switch paschal {
	case monthDay{4, 17}, monthDay{4, 25}: // 24 June is Sacred Heart or Corpus Christi.
		moves["john-baptist"] = monthDay{6, 25}
	case monthDay{4, 22}: // 29 June is Sacred Heart.
		moves["peter-and-paul"] = monthDay{6, 30}
	}
	return moves
}

// P24.1 and P24.2: Joseph and the Annunciation are moved to a later free day if they
// are in Holy Week or in the octave of Easter, and John the Baptist, and Peter and
// Paul if they are on a feast that follows Easter; nothing else is moved.
func TestMoves(t *testing.T) {
	for _, x := range yearsOfEaster(t) {
		k, want := calendarOf(t, x.year), wantMoves(x.easter)
		moved := 0
		for _, e := range k.Entries {
			if e.Kind != api.Moved {
				continue
			}
			moved++
			own := fixedDays()[e.Principal]
			if want[e.Principal] != (monthDay{e.Date.Month, e.Date.Day}) || e.From != (api.Date{Year: x.year, Month: own.month, Day: own.day}) {
				t.Errorf("in a year with Easter on %v: %+v", x.easter, e)
			}
			if e.Rank != 1 || e.Weekday == api.Sunday || len(e.Commem)+len(e.Omitted) > 0 {
				t.Errorf("a feast was moved to a day that is not free: %+v", e)
			}
		}
		if moved != len(want) {
			t.Errorf("in a year with Easter on %v, %d feasts are moved, want %v", x.easter, moved, want)
		}
		for _, id := range []string{"joseph", "annunciation", "john-baptist", "peter-and-paul", "immaculate-conception"} {
			d, own := want[id], fixedDays()[id]
			if d != (monthDay{}) {
				continue
			}
			if e := entryOf(t, k, own.month, own.day); e.Kind != api.Proper || e.Principal != id {
				t.Errorf("in a year with Easter on %v, %s is not on its own day: %+v", x.easter, id, e)
			}
		}
	}
}

// P24.1: feasts of a low rank that are on a Sunday of Lent, of Advent or of
// Christmas, or in Lent, by their policies.
func TestFeastsOfALowRank(t *testing.T) {
	for _, x := range yearsOfEaster(t) {
		k := calendarOf(t, x.year)
		for _, f := range []struct {
			id      string
			seasons []string
		}{
			{"chair-of-peter", []string{"lent"}},
			{"andrew", []string{"advent"}},
			{"stephen", []string{"christmas"}},
			{"conversion-of-paul", nil},
		} {
			own := fixedDays()[f.id]
			e := entryOf(t, k, own.month, own.day)
			onSunday := e.Weekday == api.Sunday && slices.Contains(f.seasons, e.Season)
			if onSunday && (e.Kind != api.Temporal || !slices.Equal(e.Commem, []string{f.id})) {
				t.Errorf("%s should be a commemoration: %+v", f.id, e)
			}
			if !onSunday && (e.Kind != api.Proper || e.Principal != f.id || e.Rank != 4) {
				t.Errorf("%s should be the principal celebration: %+v", f.id, e)
			}
		}
	}
}

// P24.1: the ranks of the Sundays and of the other days of each season, on days
// without a feast.
func TestRanksOfDays(t *testing.T) {
	ranks := map[string][2]int{
		"baptism-tide": {5, 8}, "lent": {2, 6}, "holy-week": {1, 1}, "easter-octave": {1, 1},
		"eastertide": {2, 8}, "ordinary-time": {5, 8}, "advent": {2, 7}, "christmas": {3, 6},
	}
	seen := map[string]bool{}
	for _, x := range yearsOfEaster(t) {
		for i, e := range calendarOf(t, x.year).Entries {
			if e.Kind != api.Temporal {
				continue
			}
			want, day := ranks[e.Season][1], "other"
			if first, _ := gregorian.First(x.year); weekday.Of(first+i) == api.Sunday {
				want, day = ranks[e.Season][0], "sunday"
			}
			if e.Principal != e.Season || e.Rank != want {
				t.Errorf("entry = %+v, want the rank %d", e, want)
			}
			seen[e.Season+" "+day] = true
		}
	}
	if len(seen) != 16 {
		t.Errorf("there are only %v", seen)
	}
}

// P24.1: the examples of the document that are about the built-in catalogue.
func TestExamplesOfTheDocument(t *testing.T) {
	for _, x := range []struct {
		id       string
		from, to api.Date
	}{
		{"annunciation", date(2024, 3, 25), date(2024, 4, 8)},
		{"joseph", date(2008, 3, 19), date(2008, 3, 31)},
		{"annunciation", date(2008, 3, 25), date(2008, 4, 1)},
		{"john-baptist", date(2022, 6, 24), date(2022, 6, 25)},
	} {
		k := calendarOf(t, x.to.Year)
		if d, ok := ordo.Where(k, x.id); !ok || d != x.to {
			t.Errorf("%s is on %v, want %v", x.id, d, x.to)
		}
		if e := entryOf(t, k, x.to.Month, x.to.Day); e.Kind != api.Moved || e.Principal != x.id || e.From != x.from {
			t.Errorf("%s should be moved from %v: %+v", x.id, x.from, e)
		}
	}
	if e := entryOf(t, calendarOf(t, 2022), 6, 24); e.Principal != "sacred-heart" {
		t.Errorf("24 June 2022: %+v", e)
	}
}

// P24.2: each feast can be found in each calendar, and no season is a feast.
func TestWhere(t *testing.T) {
	for _, x := range yearsOfEaster(t) {
		k := calendarOf(t, x.year)
		for i, id := range builtin.Names() {
			d, ok := ordo.Where(k, id)
			if ok != (i >= 8) || ok != (d.Year == x.year) {
				t.Errorf("Where(%d, %s) = %v, %t", x.year, id, d, ok)
			}
		}
	}
}

func date(year, month, day int) api.Date {
	return api.Date{Year: year, Month: month, Day: day}
}
