package ordo_test

import (
	"slices"
	"strconv"
	"testing"

	"computus/api"
	"computus/ordo"
)

func fixed(month, day int) api.Anchor {
	return api.Anchor{Kind: api.Fixed, Month: month, Day: day}
}

func paschal(offset int) api.Anchor {
	return api.Anchor{Kind: api.Paschal, Offset: offset}
}

func nth(month, day, weekday, count int) api.Anchor {
	return api.Anchor{Kind: api.Nth, Month: month, Day: day, Weekday: weekday, Count: count}
}

// seasonOf returns a season with the ranks of its Sundays and of its other days.
func seasonOf(id string, sunday, weekday int, start api.Anchor) api.Season {
	return api.Season{ID: id, Sunday: sunday, Weekday: weekday, Start: start}
}

func feastOf(id string, rank, policy int, at api.Anchor) api.Feast {
	return api.Feast{ID: id, Rank: rank, Policy: policy, At: at}
}

// oneSeason returns a catalogue with one season, all of whose days have the same
// rank, and with some feasts.
func oneSeason(free, rank int, feasts ...api.Feast) api.Catalogue {
	return api.Catalogue{Free: free, Seasons: []api.Season{seasonOf("year", rank, rank, fixed(1, 1))}, Feasts: feasts}
}

// roman returns a catalogue like those of the western churches.
func roman() api.Catalogue {
	return api.Catalogue{
		Free: 5,
		Seasons: []api.Season{
			seasonOf("ordinary-time", 6, 9, nth(1, 8, api.Monday, 1)),
			seasonOf("lent", 2, 8, paschal(-46)),
			seasonOf("holy-week", 2, 2, paschal(-7)),
			seasonOf("octave-of-easter", 1, 1, paschal(0)),
			seasonOf("eastertide", 2, 9, paschal(8)),
			seasonOf("ordinary-time-2", 6, 9, paschal(50)),
			seasonOf("advent", 2, 8, nth(11, 27, api.Sunday, 1)),
			seasonOf("christmas", 5, 7, fixed(12, 25)),
		},
		Feasts: []api.Feast{
			feastOf("mary", 3, api.Transfer, fixed(1, 1)),
			feastOf("joseph", 3, api.Transfer, fixed(3, 19)),
			feastOf("annunciation", 3, api.Transfer, fixed(3, 25)),
			feastOf("mark", 5, api.Omit, fixed(4, 25)),
			feastOf("sacred-heart", 3, api.Transfer, paschal(68)),
			feastOf("john-baptist", 3, api.Transfer, fixed(6, 24)),
			feastOf("transfiguration", 6, api.Commemorate, fixed(8, 6)),
			feastOf("lucy", 8, api.Commemorate, fixed(12, 13)),
			feastOf("anastasia", 9, api.Commemorate, fixed(12, 25)),
			feastOf("nativity", 1, api.Transfer, fixed(12, 25)),
			feastOf("sylvester", 8, api.Commemorate, fixed(12, 31)),
			feastOf("holy-family", 4, api.Omit, nth(12, 31, api.Sunday, -1)),
		},
	}
}

func date(year, month, day int) api.Date {
	return api.Date{Year: year, Month: month, Day: day}
}

func ids(l ...string) []string {
	return l
}

// sameEntry reports whether two entries are the same; an empty list is the same as
// nil.
func sameEntry(a, b api.Entry) bool {
	return a.Date == b.Date && a.Weekday == b.Weekday && a.Season == b.Season && a.Week == b.Week &&
		a.Kind == b.Kind && a.Principal == b.Principal && a.Rank == b.Rank && a.From == b.From &&
		slices.Equal(a.Commem, b.Commem) && slices.Equal(a.Omitted, b.Omitted)
}

// same reports whether two calendars are the same.
func same(a, b api.Calendar) bool {
	return a.Year == b.Year && slices.EqualFunc(a.Entries, b.Entries, sameEntry)
}

// copyOf returns a copy of a calendar.
func copyOf(k api.Calendar) api.Calendar {
	k.Entries = slices.Clone(k.Entries)
	for i, e := range k.Entries {
		k.Entries[i].Commem, k.Entries[i].Omitted = slices.Clone(e.Commem), slices.Clone(e.Omitted)
	}
	return k
}

// build returns the calendar of a year that has one.
func build(t *testing.T, c api.Catalogue, year int) api.Calendar {
	t.Helper()
	k, errno := ordo.Build(c, year)
	if errno != api.OK {
		t.Fatalf("Build(%d): error %v", year, errno)
	}
	return k
}

// expectError tests that Build returns an error and the zero Calendar.
func expectError(t *testing.T, c api.Catalogue, year int, want api.Errno) {
	t.Helper()
	k, errno := ordo.Build(c, year)
	if errno != want || k.Year != 0 || k.Entries != nil {
		t.Errorf("Build(%d) = a calendar of %d with %d entries, error %v, want error %v", year, k.Year, len(k.Entries), errno, want)
	}
}

// expectCalendar tests the result of Build.
func expectCalendar(t *testing.T, c api.Catalogue, year int, want api.Calendar) {
	t.Helper()
	got, errno := ordo.Build(c, year)
	if errno != api.OK || got.Year != want.Year || len(got.Entries) != len(want.Entries) {
		t.Fatalf("Build(%d) = a calendar of %d with %d entries, error %v, want %d entries", year, got.Year, len(got.Entries), errno, len(want.Entries))
	}
	for i, e := range got.Entries {
		if !sameEntry(e, want.Entries[i]) {
			t.Fatalf("Build(%d): entry %d = %+v, want %+v", year, i, e, want.Entries[i])
		}
	}
}

// find returns the entry of a date in a calendar that has it once, by a search that
// does not use Entry.
func find(t *testing.T, k api.Calendar, month, day int) api.Entry {
	t.Helper()
	var found []api.Entry
	for _, e := range k.Entries {
		if e.Date.Month == month && e.Date.Day == day {
			found = append(found, e)
		}
	}
	if len(found) != 1 {
		t.Fatalf("there are %d entries for %d-%d", len(found), month, day)
	}
	return found[0]
}

// expectDays tests the entries of some dates of the calendar of a year.
func expectDays(t *testing.T, c api.Catalogue, year int, want ...api.Entry) {
	t.Helper()
	k := build(t, c, year)
	for _, x := range want {
		if got := find(t, k, x.Date.Month, x.Date.Day); !sameEntry(got, x) {
			t.Errorf("entry = %+v, want %+v", got, x)
		}
	}
}

// place is what is celebrated on a day.
type place struct {
	kind      int
	principal string
	rank      int
	from      api.Date
	commem    []string
	omitted   []string
}

// expectPlace tests the celebrations of a date, whatever its season.
func expectPlace(t *testing.T, c api.Catalogue, d api.Date, want place) {
	t.Helper()
	e := find(t, build(t, c, d.Year), d.Month, d.Day)
	if e.Date != d || e.Kind != want.kind || e.Principal != want.principal || e.Rank != want.rank || e.From != want.from ||
		!slices.Equal(e.Commem, want.commem) || !slices.Equal(e.Omitted, want.omitted) {
		t.Errorf("%v: entry = %+v, want %+v", d, e, want)
	}
}

// P23.1: the example of the chapter, in common and leap years.
func TestExample(t *testing.T) {
	for _, year := range []int{api.FirstGregorian, 1900, 2000, 2023, 2024, api.MaxYear} {
		for _, start := range []api.Anchor{fixed(1, 1), fixed(12, 31), paschal(0), nth(6, 15, api.Sunday, -2)} {
			k := build(t, api.Catalogue{Seasons: []api.Season{seasonOf("ordinary", 3, 4, start)}}, year)
			if k.Year != year || len(k.Entries) < 365 {
				t.Errorf("Build(%d) = a calendar of %d with %d entries", year, k.Year, len(k.Entries))
			}
			for _, e := range k.Entries {
				if e.Kind != api.Temporal || e.Principal != "ordinary" || e.Season != "ordinary" || e.From != (api.Date{}) || len(e.Commem)+len(e.Omitted) != 0 {
					t.Errorf("Build(%d): entry %+v", year, e)
				}
			}
		}
	}
}

// P23.1: known entries of a leap year, with each field.
func TestKnownEntriesOfALeapYear(t *testing.T) {
	expectDays(t, roman(), 2024,
		api.Entry{Date: date(2024, 1, 1), Weekday: 1, Season: "christmas", Kind: 2, Principal: "mary", Rank: 3},
		api.Entry{Date: date(2024, 1, 2), Weekday: 2, Season: "christmas", Kind: 1, Principal: "christmas", Rank: 7},
		api.Entry{Date: date(2024, 1, 7), Weekday: 0, Season: "christmas", Week: 1, Kind: 1, Principal: "christmas", Rank: 5},
		api.Entry{Date: date(2024, 1, 8), Weekday: 1, Season: "ordinary-time", Kind: 1, Principal: "ordinary-time", Rank: 9},
		api.Entry{Date: date(2024, 1, 14), Weekday: 0, Season: "ordinary-time", Week: 1, Kind: 1, Principal: "ordinary-time", Rank: 6},
		api.Entry{Date: date(2024, 2, 13), Weekday: 2, Season: "ordinary-time", Week: 5, Kind: 1, Principal: "ordinary-time", Rank: 9},
		api.Entry{Date: date(2024, 2, 14), Weekday: 3, Season: "lent", Kind: 1, Principal: "lent", Rank: 8},
		api.Entry{Date: date(2024, 2, 29), Weekday: 4, Season: "lent", Week: 2, Kind: 1, Principal: "lent", Rank: 8},
		api.Entry{Date: date(2024, 3, 17), Weekday: 0, Season: "lent", Week: 5, Kind: 1, Principal: "lent", Rank: 2},
		api.Entry{Date: date(2024, 3, 19), Weekday: 2, Season: "lent", Week: 5, Kind: 2, Principal: "joseph", Rank: 3},
		api.Entry{Date: date(2024, 3, 25), Weekday: 1, Season: "holy-week", Week: 1, Kind: 1, Principal: "holy-week", Rank: 2},
		api.Entry{Date: date(2024, 3, 31), Weekday: 0, Season: "octave-of-easter", Week: 1, Kind: 1, Principal: "octave-of-easter", Rank: 1},
		api.Entry{Date: date(2024, 4, 7), Weekday: 0, Season: "octave-of-easter", Week: 2, Kind: 1, Principal: "octave-of-easter", Rank: 1},
		api.Entry{Date: date(2024, 4, 8), Weekday: 1, Season: "eastertide", Kind: 3, Principal: "annunciation", Rank: 3, From: date(2024, 3, 25)},
		api.Entry{Date: date(2024, 4, 9), Weekday: 2, Season: "eastertide", Kind: 1, Principal: "eastertide", Rank: 9},
		api.Entry{Date: date(2024, 8, 6), Weekday: 2, Season: "ordinary-time-2", Week: 11, Kind: 2, Principal: "transfiguration", Rank: 6},
		api.Entry{Date: date(2024, 12, 1), Weekday: 0, Season: "advent", Week: 1, Kind: 1, Principal: "advent", Rank: 2},
		api.Entry{Date: date(2024, 12, 13), Weekday: 5, Season: "advent", Week: 2, Kind: 1, Principal: "advent", Rank: 8, Commem: ids("lucy")},
		api.Entry{Date: date(2024, 12, 25), Weekday: 3, Season: "christmas", Kind: 2, Principal: "nativity", Rank: 1, Commem: ids("anastasia")},
		api.Entry{Date: date(2024, 12, 29), Weekday: 0, Season: "christmas", Week: 1, Kind: 2, Principal: "holy-family", Rank: 4},
		api.Entry{Date: date(2024, 12, 31), Weekday: 2, Season: "christmas", Week: 1, Kind: 1, Principal: "christmas", Rank: 7, Commem: ids("sylvester")},
	)
}

// P23.1: known entries of common years.
func TestKnownEntriesOfCommonYears(t *testing.T) {
	expectDays(t, roman(), 2022,
		api.Entry{Date: date(2022, 1, 1), Weekday: 6, Season: "christmas", Kind: 2, Principal: "mary", Rank: 3},
		api.Entry{Date: date(2022, 1, 2), Weekday: 0, Season: "christmas", Week: 1, Kind: 1, Principal: "christmas", Rank: 5},
		api.Entry{Date: date(2022, 6, 24), Weekday: 5, Season: "ordinary-time-2", Week: 2, Kind: 2, Principal: "sacred-heart", Rank: 3},
		api.Entry{Date: date(2022, 6, 25), Weekday: 6, Season: "ordinary-time-2", Week: 2, Kind: 3, Principal: "john-baptist", Rank: 3, From: date(2022, 6, 24)},
		api.Entry{Date: date(2022, 6, 26), Weekday: 0, Season: "ordinary-time-2", Week: 3, Kind: 1, Principal: "ordinary-time-2", Rank: 6},
		api.Entry{Date: date(2022, 12, 25), Weekday: 0, Season: "christmas", Week: 1, Kind: 2, Principal: "nativity", Rank: 1, Commem: ids("anastasia"), Omitted: ids("holy-family")},
	)
	expectDays(t, roman(), 2023,
		api.Entry{Date: date(2023, 1, 1), Weekday: 0, Season: "christmas", Week: 1, Kind: 2, Principal: "mary", Rank: 3},
		api.Entry{Date: date(2023, 2, 28), Weekday: 2, Season: "lent", Week: 1, Kind: 1, Principal: "lent", Rank: 8},
		api.Entry{Date: date(2023, 3, 1), Weekday: 3, Season: "lent", Week: 1, Kind: 1, Principal: "lent", Rank: 8},
		api.Entry{Date: date(2023, 8, 6), Weekday: 0, Season: "ordinary-time-2", Week: 10, Kind: 1, Principal: "ordinary-time-2", Rank: 6, Commem: ids("transfiguration")},
		api.Entry{Date: date(2023, 12, 31), Weekday: 0, Season: "christmas", Week: 1, Kind: 2, Principal: "holy-family", Rank: 4, Commem: ids("sylvester")},
	)
	expectDays(t, roman(), 2021,
		api.Entry{Date: date(2021, 4, 25), Weekday: 0, Season: "eastertide", Week: 2, Kind: 1, Principal: "eastertide", Rank: 2, Omitted: ids("mark")},
	)
}

// P23.1: two feasts that are impeded in Holy Week and in the octave of Easter.
func TestTwoMovedFeasts(t *testing.T) {
	expectDays(t, roman(), 2008,
		api.Entry{Date: date(2008, 3, 19), Weekday: 3, Season: "holy-week", Week: 1, Kind: 1, Principal: "holy-week", Rank: 2},
		api.Entry{Date: date(2008, 3, 25), Weekday: 2, Season: "octave-of-easter", Week: 1, Kind: 1, Principal: "octave-of-easter", Rank: 1},
		api.Entry{Date: date(2008, 3, 30), Weekday: 0, Season: "octave-of-easter", Week: 2, Kind: 1, Principal: "octave-of-easter", Rank: 1},
		api.Entry{Date: date(2008, 3, 31), Weekday: 1, Season: "eastertide", Kind: 3, Principal: "joseph", Rank: 3, From: date(2008, 3, 19)},
		api.Entry{Date: date(2008, 4, 1), Weekday: 2, Season: "eastertide", Kind: 3, Principal: "annunciation", Rank: 3, From: date(2008, 3, 25)},
		api.Entry{Date: date(2008, 4, 2), Weekday: 3, Season: "eastertide", Kind: 1, Principal: "eastertide", Rank: 9},
	)
}

// P23.1: a season has its ID, its week and the rank of the day in each entry, for
// each pair of ranks.
func TestRanksOfTheSeason(t *testing.T) {
	for sunday := 1; sunday <= 9; sunday++ {
		for weekday := 1; weekday <= 9; weekday++ {
			c := api.Catalogue{Free: 4, Seasons: []api.Season{seasonOf("a", sunday, weekday, fixed(2, 5)), seasonOf("b", weekday, sunday, fixed(12, 1))}}
			expectDays(t, c, 2023,
				api.Entry{Date: date(2023, 1, 1), Season: "b", Week: 1, Kind: 1, Principal: "b", Rank: weekday},
				api.Entry{Date: date(2023, 1, 7), Weekday: 6, Season: "b", Week: 1, Kind: 1, Principal: "b", Rank: sunday},
				api.Entry{Date: date(2023, 2, 4), Weekday: 6, Season: "b", Week: 5, Kind: 1, Principal: "b", Rank: sunday},
				api.Entry{Date: date(2023, 2, 5), Season: "a", Week: 1, Kind: 1, Principal: "a", Rank: sunday},
				api.Entry{Date: date(2023, 2, 6), Weekday: 1, Season: "a", Week: 1, Kind: 1, Principal: "a", Rank: weekday},
				api.Entry{Date: date(2023, 11, 30), Weekday: 4, Season: "a", Week: 43, Kind: 1, Principal: "a", Rank: weekday},
				api.Entry{Date: date(2023, 12, 1), Weekday: 5, Season: "b", Kind: 1, Principal: "b", Rank: sunday},
				api.Entry{Date: date(2023, 12, 31), Season: "b", Week: 5, Kind: 1, Principal: "b", Rank: weekday},
			)
		}
	}
}

// P23.1: the weeks begin anew on the start of a season, also if the season has had
// the days before it since the beginning of the year, and if another season has the
// same start.
func TestWeekBeginsAnew(t *testing.T) {
	c := api.Catalogue{Seasons: []api.Season{seasonOf("a", 1, 2, fixed(3, 1))}}
	expectDays(t, c, 2024,
		api.Entry{Date: date(2024, 2, 29), Weekday: 4, Season: "a", Week: 8, Kind: 1, Principal: "a", Rank: 2},
		api.Entry{Date: date(2024, 3, 1), Weekday: 5, Season: "a", Week: 0, Kind: 1, Principal: "a", Rank: 2},
		api.Entry{Date: date(2024, 3, 3), Season: "a", Week: 1, Kind: 1, Principal: "a", Rank: 1},
	)
	c.Seasons = append(c.Seasons, seasonOf("b", 3, 4, fixed(3, 1)), seasonOf("c", 5, 6, fixed(3, 4)))
	expectDays(t, c, 2024,
		api.Entry{Date: date(2024, 2, 29), Weekday: 4, Season: "c", Week: 8, Kind: 1, Principal: "c", Rank: 6},
		api.Entry{Date: date(2024, 3, 1), Weekday: 5, Season: "b", Week: 0, Kind: 1, Principal: "b", Rank: 4},
		api.Entry{Date: date(2024, 3, 3), Season: "b", Week: 1, Kind: 1, Principal: "b", Rank: 3},
		api.Entry{Date: date(2024, 3, 4), Weekday: 1, Season: "c", Week: 0, Kind: 1, Principal: "c", Rank: 6},
	)
}

// manyFeasts returns as many feasts of a rank and policy as there may be, on days of
// the whole year that do not change.
func manyFeasts(n, rank, policy int) []api.Feast {
	var l []api.Feast
	for i := range n {
		l = append(l, feastOf("feast-"+strconv.Itoa(i), rank, policy, fixed(1+i%12, 1+i/12%28)))
	}
	return l
}

// P23.1: with many feasts, every one is on its own day if no other one is there.
func TestManyFeastsOnTheirOwnDays(t *testing.T) {
	for _, policy := range []int{api.Transfer, api.Commemorate, api.Omit} {
		c := oneSeason(5, 9, manyFeasts(12*28, 3, policy)...)
		for _, year := range []int{2023, 2024} {
			k := build(t, c, year)
			for _, f := range c.Feasts {
				e := find(t, k, f.At.Month, f.At.Day)
				if e.Kind != api.Proper || e.Principal != f.ID || e.Rank != 3 || e.From != (api.Date{}) || len(e.Commem)+len(e.Omitted) > 0 {
					t.Errorf("%v: entry = %+v", f, e)
				}
			}
		}
	}
}
