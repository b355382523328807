package paschal_test

import (
	"fmt"
	"math"
	"slices"
	"testing"

	"computus/api"
	"computus/civil"
	"computus/epact"
	"computus/golden"
	"computus/label"
	"computus/paschal"
)

const (
	least = math.MinInt
	most  = math.MaxInt
)

// moon is what NewMoon returns.
type moon struct {
	is    bool
	errno api.Errno
}

func packMoon(is bool, errno api.Errno) moon { return moon{is, errno} }

func noMoon(errno api.Errno) moon { return moon{false, errno} }

// full is what FullMoon returns.
type full struct {
	d     api.Date
	errno api.Errno
}

func packFull(d api.Date, errno api.Errno) full { return full{d, errno} }

func noFull(errno api.Errno) full { return full{api.Date{}, errno} }

// on returns a full moon on a date.
func on(year, month, day int) full { return full{date(year, month, day), api.OK} }

func date(year, month, day int) api.Date { return api.Date{Year: year, Month: month, Day: day} }

// both lists the calendars.
func both() []int { return []int{api.Julian, api.Gregorian} }

// noCalendars lists numbers that are not calendars.
func noCalendars() []int {
	return []int{0, 3, 4, -1, -2, -3, 1 << 32, 1<<32 + 1, 1<<32 + 2, -1 << 32, -1<<32 + 1, least, least + 1, least + 2, most, most - 1}
}

// firstYear returns the first year of a calendar that has a label.
func firstYear(calendar int) int {
	if calendar == api.Julian {
		return api.MinYear
	}
	return api.FirstGregorian
}

// noYears lists years that are not accepted in a calendar.
func noYears(calendar int) []int {
	l := []int{0, -1, -2, -4, -19, -100, -400, -1583, -2000, -api.MaxYear, api.MaxYear + 1, api.MaxYear + 2, api.MaxYear + 19, api.MaxYear + 400, 2 * api.MaxYear, 1 << 32, 1<<32 + 2000, -1 << 32, -1<<32 + 2000, 1 << 62, -1 << 62, least, least + 1, least + 2000, most, most - 1}
	if calendar == api.Gregorian {
		l = append(l, api.MinYear, 2, 4, 19, 100, 400, 532, 1000, 1500, 1581, api.FirstGregorian-1)
	}
	return l
}

// spans lists years of a calendar from the whole range: all of the first and the
// last ones, and some in between.
func spans(calendar int) []int {
	first := firstYear(calendar)
	var l []int
	for i := range 3000 {
		l = append(l, first+i, api.MaxYear-i)
	}
	const step = 999_998_000 / 1999
	for year := first; year <= api.MaxYear; year += step {
		l = append(l, year)
	}
	return l
}

// sample lists a few years of a calendar: the ends of the range, common and leap
// years, and years with each label that occurs in it.
func sample(calendar int) []int {
	l := []int{firstYear(calendar), firstYear(calendar) + 1, 1600, 1700, 1900, 1916, 1954, 1981, 2000, 2023, 2024, api.MaxYear - 1, api.MaxYear}
	for _, years := range withLabels(calendar) {
		l = append(l, years...)
	}
	slices.Sort(l)
	return slices.Compact(l)
}

// withLabels returns for each label, which is the index, at most three years
// that have it.
func withLabels(calendar int) [32][]int {
	var l [32][]int
	for _, year := range spans(calendar) {
		n, _ := epact.Label(calendar, year)
		if len(l[n]) < 3 {
			l[n] = append(l[n], year)
		}
	}
	return l
}

// isLeap reports whether a year of a calendar has 29 February.
func isLeap(calendar, year int) bool {
	n, _ := civil.YearLength(calendar, year)
	return n == 366
}

// datesOf lists all dates of a year.
func datesOf(calendar, year int) []api.Date {
	length, _ := civil.YearLength(calendar, year)
	var l []api.Date
	for n := 1; n <= length; n++ {
		d, _ := civil.FromYear(calendar, year, n)
		l = append(l, d)
	}
	return l
}

// commonDate returns the date of a year with a day of the year that does not
// count 29 February.
func commonDate(year, n int) api.Date {
	for i, length := range []int{31, 28, 31, 30, 31, 30, 31, 31, 30, 31, 30, 31} {
		if n <= length {
			return date(year, i+1, n)
		}
		n -= length
	}
	return api.Date{}
}

// newMoons lists the dates of a year with a label that have the new moon, from
// the days of the year on which the lunations begin.
func newMoons(year, n int) []api.Date {
	var l []api.Date
	for i, first := range []int{1, 31, 60, 90, 119, 149, 178, 208, 237, 267, 296, 326, 355} {
		late := 30 - n
		switch hollow := i%2 == 1; {
		case hollow && n == 31:
			late = 4
		case n == 31:
			late = 5
		case hollow && n <= 24:
			late = 29 - n
		}
		if first+late <= 365 {
			l = append(l, commonDate(year, first+late))
		}
	}
	return l
}

// fullAfter returns the paschal full moon of a year with a label, by the known
// table: from 21 March for 23 back to 12 April for 1, and then on from 13 April
// for 30.
func fullAfter(year, n int) api.Date {
	march := 44 - n
	switch {
	case n == 24 || n == 25:
		march = 31 + 18
	case n == 31:
		march = 31 + 17
	case n > 25:
		march = 74 - n
	}
	if march > 31 {
		return date(year, 4, march-31)
	}
	return date(year, 3, march)
}

// P9.1: known dates, and the ones beside them.
func TestNewMoonOnKnownDates(t *testing.T) {
	for _, x := range []struct {
		calendar, year, month, day int
		want                       bool
	}{
		// The label is 19.
		{api.Gregorian, 2024, 3, 12, true}, {api.Gregorian, 2024, 3, 11, false}, {api.Gregorian, 2024, 3, 13, false},
		{api.Gregorian, 2024, 1, 12, true}, {api.Gregorian, 2024, 2, 10, true}, {api.Gregorian, 2024, 12, 2, true}, {api.Gregorian, 2024, 12, 31, false},
		// The label is 24, which shares days of hollow lunations with 25.
		{api.Gregorian, 2000, 1, 7, true}, {api.Gregorian, 2000, 1, 6, false}, {api.Gregorian, 2000, 2, 5, true}, {api.Gregorian, 2000, 2, 4, false}, {api.Gregorian, 2000, 3, 7, true}, {api.Gregorian, 2000, 4, 5, true}, {api.Gregorian, 2000, 4, 4, false}, {api.Gregorian, 2000, 4, 6, false},
		// The label is 31, which shares days with 25 or 26.
		{api.Gregorian, 1916, 1, 6, true}, {api.Gregorian, 1916, 1, 5, false}, {api.Gregorian, 1916, 1, 7, false}, {api.Gregorian, 1916, 2, 4, true}, {api.Gregorian, 1916, 2, 5, false}, {api.Gregorian, 1916, 3, 6, true}, {api.Gregorian, 1916, 4, 4, true}, {api.Gregorian, 1916, 4, 5, false},
		// The label is 25.
		{api.Julian, 1945, 1, 6, true}, {api.Julian, 1945, 2, 5, true}, {api.Julian, 1945, 2, 4, false}, {api.Julian, 1945, 4, 5, true}, {api.Julian, 1945, 4, 4, false},
		// The label is 3.
		{api.Julian, 2000, 3, 28, true}, {api.Julian, 2000, 3, 27, false}, {api.Julian, 2000, 3, 29, false},
		// The label is 30.
		{api.Julian, 1940, 1, 1, true}, {api.Julian, 1940, 1, 31, true}, {api.Julian, 1940, 3, 1, true}, {api.Julian, 1940, 12, 21, true}, {api.Julian, 1940, 12, 31, false},
		// The label is 20.
		{api.Julian, 1950, 12, 31, true}, {api.Julian, 1950, 1, 1, false}, {api.Julian, 1950, 1, 11, true}, {api.Julian, 1950, 12, 30, false},
		// The labels are 19 and 26 at the ends of the range.
		{api.Julian, api.MinYear, 1, 11, false}, {api.Julian, api.MinYear, 1, 12, true}, {api.Julian, api.MinYear, 12, 31, false},
		{api.Julian, api.MaxYear, 1, 5, true}, {api.Julian, api.MaxYear, 1, 6, false}, {api.Julian, api.MaxYear, 4, 4, true}, {api.Julian, api.MaxYear, 12, 25, true},
	} {
		d := date(x.year, x.month, x.day)
		if got := packMoon(paschal.NewMoon(x.calendar, d)); got != (moon{x.want, api.OK}) {
			t.Errorf("NewMoon(%d, %v) = %v, want %v", x.calendar, d, got, x.want)
		}
	}
}

// P9.1: every date of years with every label, by the days of the lunations and
// by the definition.
func TestNewMoonOnEveryDate(t *testing.T) {
	for _, calendar := range both() {
		for _, year := range sample(calendar) {
			n, _ := epact.Label(calendar, year)
			moons := newMoons(year, n)
			for _, d := range datesOf(calendar, year) {
				want := moon{slices.Contains(moons, d), api.OK}
				if got := packMoon(paschal.NewMoon(calendar, d)); got != want || got.is != label.Bears(d.Month, d.Day, n) {
					t.Errorf("NewMoon(%d, %v) = %v, want %v", calendar, d, got, want)
				}
			}
		}
	}
}

// P9.1: 29 February never has the new moon, whatever the label; where there is
// no such day, it is not a valid date.
func TestNewMoonOn29February(t *testing.T) {
	leaps := map[int]int{}
	for _, calendar := range both() {
		for _, year := range spans(calendar) {
			want := noMoon(api.ErrDate)
			if isLeap(calendar, year) {
				want = noMoon(api.OK)
				leaps[calendar]++
			}
			if got := packMoon(paschal.NewMoon(calendar, date(year, 2, 29))); got != want {
				t.Errorf("NewMoon(%d, 29 February %d) = %v, want %v", calendar, year, got, want)
			}
		}
	}
	if leaps[api.Julian] < 1000 || leaps[api.Gregorian] < 1000 {
		t.Errorf("there are only %v leap years", leaps)
	}
	for _, x := range []struct {
		calendar, year int
		want           moon
	}{
		{api.Julian, 1900, noMoon(api.OK)}, {api.Gregorian, 1900, noMoon(api.ErrDate)},
		{api.Julian, 2000, noMoon(api.OK)}, {api.Gregorian, 2000, noMoon(api.OK)},
		{api.Julian, 2023, noMoon(api.ErrDate)}, {api.Gregorian, 2023, noMoon(api.ErrDate)},
		{api.Julian, 4, noMoon(api.OK)}, {api.Julian, 1, noMoon(api.ErrDate)},
		{api.Julian, api.MaxYear, noMoon(api.OK)}, {api.Gregorian, api.MaxYear, noMoon(api.OK)},
	} {
		if got := packMoon(paschal.NewMoon(x.calendar, date(x.year, 2, 29))); got != x.want {
			t.Errorf("NewMoon(%d, 29 February %d) = %v, want %v", x.calendar, x.year, got, x.want)
		}
	}
}

// outside lists months and days that no year has.
func outside() [][2]int {
	extremes := []int{0, -1, -2, -12, -28, -31, least, least + 1, least + 3, -1 << 32, -1<<32 + 1, 1 << 32, 1<<32 + 1, 1<<32 + 3, 1 << 62, most - 1, most}
	noMonths := append([]int{13, 14, 24, 25, 256, 257}, extremes...)
	noDays := append([]int{32, 33, 60, 100, 256, 257}, extremes...)
	l := [][2]int{{2, 30}, {2, 31}, {4, 31}, {6, 31}, {9, 31}, {11, 31}}
	for month := 1; month <= 12; month++ {
		for _, day := range noDays {
			l = append(l, [2]int{month, day})
		}
	}
	for _, month := range noMonths {
		for _, day := range append([]int{1, 2, 12, 21, 28, 29, 30, 31}, noDays...) {
			l = append(l, [2]int{month, day})
		}
	}
	return l
}

// P9.1: dates that are not valid, with false.
func TestNewMoonOnNoDate(t *testing.T) {
	for _, calendar := range both() {
		for _, year := range sample(calendar) {
			for _, x := range outside() {
				d := date(year, x[0], x[1])
				if got := packMoon(paschal.NewMoon(calendar, d)); got != noMoon(api.ErrDate) {
					t.Errorf("NewMoon(%d, %v) = %v, want false and ErrDate", calendar, d, got)
				}
			}
		}
	}
}

// P9.1: the dates that are accepted are those of the calendar.
func TestNewMoonAcceptsTheDatesOfTheCalendar(t *testing.T) {
	for _, calendar := range both() {
		for _, year := range []int{1583, 1600, 1700, 1900, 2000, 2023, 2024, api.MaxYear} {
			for month := -1; month <= 14; month++ {
				for day := -1; day <= 33; day++ {
					d := date(year, month, day)
					_, want := civil.ToDay(calendar, d)
					if got := packMoon(paschal.NewMoon(calendar, d)); got.errno != want {
						t.Errorf("NewMoon(%d, %v) has the error %d, want %d", calendar, d, got.errno, want)
					}
				}
			}
		}
	}
}

// P9.1, P9.2, P9.3: years out of range, before ErrDate.
func TestYearsOutOfRange(t *testing.T) {
	for _, calendar := range both() {
		for _, year := range noYears(calendar) {
			for _, x := range append(outside(), [2]int{1, 1}, [2]int{1, 12}, [2]int{2, 29}, [2]int{3, 8}, [2]int{3, 21}, [2]int{12, 31}) {
				d := date(year, x[0], x[1])
				if got := packMoon(paschal.NewMoon(calendar, d)); got != noMoon(api.ErrRange) {
					t.Errorf("NewMoon(%d, %v) = %v, want false and ErrRange", calendar, d, got)
				}
			}
			if got := packFull(paschal.FullMoon(calendar, year)); got != noFull(api.ErrRange) {
				t.Errorf("FullMoon(%d, %d) = %v, want the zero date and ErrRange", calendar, year, got)
			}
			if l, errno := paschal.Table(calendar, year); l != nil || errno != api.ErrRange {
				t.Errorf("Table(%d, %d) = %v, %d, want nil and ErrRange", calendar, year, l, errno)
			}
		}
	}
}

// P9.1, P9.2, P9.3: numbers that are not calendars, before ErrRange and ErrDate.
func TestNoSuchCalendar(t *testing.T) {
	years := append(noYears(api.Gregorian), api.FirstGregorian, 2000, 2024, api.MaxYear)
	for _, calendar := range noCalendars() {
		for _, year := range years {
			for _, x := range [][2]int{{1, 1}, {1, 12}, {2, 29}, {3, 12}, {12, 31}, {2, 30}, {13, 1}, {0, 0}, {1, 32}, {least, least}, {most, most}} {
				d := date(year, x[0], x[1])
				if got := packMoon(paschal.NewMoon(calendar, d)); got != noMoon(api.ErrArg) {
					t.Errorf("NewMoon(%d, %v) = %v, want false and ErrArg", calendar, d, got)
				}
			}
			if got := packFull(paschal.FullMoon(calendar, year)); got != noFull(api.ErrArg) {
				t.Errorf("FullMoon(%d, %d) = %v, want the zero date and ErrArg", calendar, year, got)
			}
			if l, errno := paschal.Table(calendar, year); l != nil || errno != api.ErrArg {
				t.Errorf("Table(%d, %d) = %v, %d, want nil and ErrArg", calendar, year, l, errno)
			}
		}
	}
}

// P9.1, P9.2, P9.3: the ends of the range are accepted, and the years beside
// them are not.
func TestEndsOfTheRange(t *testing.T) {
	for _, calendar := range both() {
		first := firstYear(calendar)
		for year, want := range map[int]api.Errno{
			first - 1: api.ErrRange, first: api.OK, first + 1: api.OK,
			api.MaxYear - 1: api.OK, api.MaxYear: api.OK, api.MaxYear + 1: api.ErrRange,
		} {
			if _, errno := paschal.NewMoon(calendar, date(year, 1, 1)); errno != want {
				t.Errorf("NewMoon(%d, 1 January %d) has the error %d, want %d", calendar, year, errno, want)
			}
			if _, errno := paschal.NewMoon(calendar, date(year, 12, 31)); errno != want {
				t.Errorf("NewMoon(%d, 31 December %d) has the error %d, want %d", calendar, year, errno, want)
			}
			if _, errno := paschal.FullMoon(calendar, year); errno != want {
				t.Errorf("FullMoon(%d, %d) has the error %d, want %d", calendar, year, errno, want)
			}
			if _, errno := paschal.Table(calendar, year); errno != want {
				t.Errorf("Table(%d, %d) has the error %d, want %d", calendar, year, errno, want)
			}
		}
	}
}

// P9.2: the examples of the chapter and of the document, and the ends of the
// range.
func TestFullMoonOfKnownYears(t *testing.T) {
	for _, x := range []struct {
		calendar, year, month, day int
	}{
		{api.Gregorian, 2000, 4, 18},
		{api.Julian, 2000, 4, 10},
		{api.Gregorian, 2024, 3, 25},
		{api.Julian, 2024, 4, 15},
		{api.Gregorian, 1981, 4, 18},
		{api.Gregorian, 1954, 4, 17},
		{api.Gregorian, 1916, 4, 17},
		{api.Gregorian, 1818, 3, 21},
		{api.Gregorian, 2008, 3, 22},
		{api.Gregorian, 2019, 4, 18},
		{api.Gregorian, 2022, 4, 16},
		{api.Gregorian, 2023, 4, 5},
		{api.Gregorian, 2038, 4, 18},
		{api.Gregorian, api.FirstGregorian, 4, 6},
		{api.Julian, api.MinYear, 3, 25},
		{api.Julian, 532, 4, 5},
		{api.Julian, api.FirstGregorian, 3, 30},
		{api.Julian, 2010, 3, 21},
		{api.Julian, 2021, 4, 18},
		{api.Julian, api.MaxYear, 4, 17},
	} {
		if got := packFull(paschal.FullMoon(x.calendar, x.year)); got != on(x.year, x.month, x.day) {
			t.Errorf("FullMoon(%d, %d) = %v, want %d-%d", x.calendar, x.year, got, x.month, x.day)
		}
	}
}

// P9.2: the Gregorian full moons of the 20th to the 22nd century by their golden
// numbers, as the corrections of these centuries differ by the same number.
func TestFullMoonOfThreeCenturies(t *testing.T) {
	days := [][2]int{{4, 14}, {4, 3}, {3, 23}, {4, 11}, {3, 31}, {4, 18}, {4, 8}, {3, 28}, {4, 16}, {4, 5}, {3, 25}, {4, 13}, {4, 2}, {3, 22}, {4, 10}, {3, 30}, {4, 17}, {4, 7}, {3, 27}}
	for year := 1900; year < 2200; year++ {
		d := days[year%19]
		if got := packFull(paschal.FullMoon(api.Gregorian, year)); got != on(year, d[0], d[1]) {
			t.Errorf("FullMoon(Gregorian, %d) = %v, want %v", year, got, d)
		}
	}
}

// P9.2: the full moon of each label, and all labels: the Gregorian calendar has
// both 25 and 31, the Julian one never 31.
func TestFullMoonOfEveryLabel(t *testing.T) {
	for _, calendar := range both() {
		var counts [32]int
		for _, year := range spans(calendar) {
			n, _ := epact.Label(calendar, year)
			counts[n]++
			want := full{fullAfter(year, n), api.OK}
			if got := packFull(paschal.FullMoon(calendar, year)); got != want {
				t.Errorf("FullMoon(%d, %d) = %v, want %v for the label %d", calendar, year, got, want, n)
			}
		}
		for n := 1; n <= 31; n++ {
			if calendar == api.Gregorian && counts[n] == 0 {
				t.Errorf("no Gregorian year has the label %d", n)
			}
		}
		if calendar == api.Julian && (counts[31] > 0 || counts[25] == 0) {
			t.Error("the Julian labels are not as expected")
		}
	}
}

// hasFullMoon reports whether the thirteenth day before a date has the new moon.
func hasFullMoon(calendar int, d api.Date) bool {
	before, _ := civil.Shift(calendar, d, -13)
	is, _ := paschal.NewMoon(calendar, before)
	return is
}

// P9.2: the full moon is the earliest date from 21 March on whose thirteenth day
// before has the new moon.
func TestFullMoonIsTheEarliest(t *testing.T) {
	for _, calendar := range both() {
		for _, year := range spans(calendar) {
			want := date(year, 3, 21)
			for !hasFullMoon(calendar, want) {
				want, _ = civil.Shift(calendar, want, 1)
			}
			if got := packFull(paschal.FullMoon(calendar, year)); got != (full{want, api.OK}) {
				t.Errorf("FullMoon(%d, %d) = %v, want %v", calendar, year, got, want)
			}
		}
	}
}

// P9.3: known tables: labels next to the end of the last lunation, which ends
// early, and labels that share days.
func TestTableOfKnownYears(t *testing.T) {
	for _, x := range []struct {
		calendar, year int
		want           [][2]int
	}{
		{api.Gregorian, 2024, [][2]int{{1, 12}, {2, 10}, {3, 12}, {4, 10}, {5, 10}, {6, 8}, {7, 8}, {8, 6}, {9, 5}, {10, 4}, {11, 3}, {12, 2}}},
		{api.Gregorian, 2000, [][2]int{{1, 7}, {2, 5}, {3, 7}, {4, 5}, {5, 5}, {6, 3}, {7, 3}, {8, 1}, {8, 31}, {9, 29}, {10, 29}, {11, 27}, {12, 27}}},
		{api.Gregorian, 1916, [][2]int{{1, 6}, {2, 4}, {3, 6}, {4, 4}, {5, 4}, {6, 2}, {7, 2}, {7, 31}, {8, 30}, {9, 28}, {10, 28}, {11, 26}, {12, 26}}},
		{api.Julian, 1945, [][2]int{{1, 6}, {2, 5}, {3, 6}, {4, 5}, {5, 4}, {6, 3}, {7, 2}, {8, 1}, {8, 30}, {9, 29}, {10, 28}, {11, 27}, {12, 26}}},
		{api.Julian, 1940, [][2]int{{1, 1}, {1, 31}, {3, 1}, {3, 31}, {4, 29}, {5, 29}, {6, 27}, {7, 27}, {8, 25}, {9, 24}, {10, 23}, {11, 22}, {12, 21}}},
		{api.Julian, 1950, [][2]int{{1, 11}, {2, 9}, {3, 11}, {4, 9}, {5, 9}, {6, 7}, {7, 7}, {8, 5}, {9, 4}, {10, 3}, {11, 2}, {12, 1}, {12, 31}}},
		{api.Julian, api.MinYear, [][2]int{{1, 12}, {2, 10}, {3, 12}, {4, 10}, {5, 10}, {6, 8}, {7, 8}, {8, 6}, {9, 5}, {10, 4}, {11, 3}, {12, 2}}},
	} {
		var want []api.Date
		for _, d := range x.want {
			want = append(want, date(x.year, d[0], d[1]))
		}
		if got, errno := paschal.Table(x.calendar, x.year); errno != api.OK || !slices.Equal(got, want) {
			t.Errorf("Table(%d, %d) = %v, %d, want %v", x.calendar, x.year, got, errno, want)
		}
	}
}

// P9.3: the table of every label, by the days of the lunations, with twelve or
// thirteen dates.
func TestTableOfEveryLabel(t *testing.T) {
	lengths := map[int]int{}
	for _, calendar := range both() {
		for _, year := range spans(calendar) {
			n, _ := epact.Label(calendar, year)
			want := newMoons(year, n)
			got, errno := paschal.Table(calendar, year)
			if errno != api.OK || !slices.Equal(got, want) {
				t.Errorf("Table(%d, %d) = %v, %d, want %v for the label %d", calendar, year, got, errno, want, n)
			}
			lengths[len(got)]++
		}
	}
	if len(lengths) != 2 || lengths[12] == 0 || lengths[13] == 0 {
		t.Errorf("the tables have these numbers of dates: %v", lengths)
	}
}

// P9.3: the table lists exactly the dates that have the new moon, in order; some
// tables begin with 1 January, and some end with 31 December.
func TestTableAgreesWithNewMoon(t *testing.T) {
	begin, end := 0, 0
	for _, calendar := range both() {
		for _, year := range sample(calendar) {
			var want []api.Date
			for _, d := range datesOf(calendar, year) {
				if is, _ := paschal.NewMoon(calendar, d); is {
					want = append(want, d)
				}
			}
			got, errno := paschal.Table(calendar, year)
			if errno != api.OK || !slices.Equal(got, want) {
				t.Errorf("Table(%d, %d) = %v, %d, want %v", calendar, year, got, errno, want)
			}
			if slices.Contains(got, date(year, 1, 1)) {
				begin++
			}
			if slices.Contains(got, date(year, 12, 31)) {
				end++
			}
		}
	}
	if begin < 2 || end < 2 {
		t.Errorf("only %d tables begin with 1 January, and %d end with 31 December", begin, end)
	}
}

// P9.4: the full moon is from 21 March to 18 April of its year, and reaches both
// of these days in both calendars.
func TestFullMoonIsNearTheEquinox(t *testing.T) {
	for _, calendar := range both() {
		reached := map[[2]int]bool{}
		for _, year := range spans(calendar) {
			d, errno := paschal.FullMoon(calendar, year)
			early := d.Month < 3 || d.Month == 3 && d.Day < 21
			late := d.Month > 4 || d.Month == 4 && d.Day > 18
			if errno != api.OK || d.Year != year || early || late {
				t.Errorf("FullMoon(%d, %d) = %v, %d", calendar, year, d, errno)
			}
			reached[[2]int{d.Month, d.Day}] = true
		}
		if !reached[[2]int{3, 21}] || !reached[[2]int{4, 18}] {
			t.Errorf("the full moons of the calendar %d do not reach the ends", calendar)
		}
	}
}

// P9.4: the Julian full moons by their golden numbers.
func TestJulianFullMoonByGoldenNumber(t *testing.T) {
	days := [][2]int{{4, 5}, {3, 25}, {4, 13}, {4, 2}, {3, 22}, {4, 10}, {3, 30}, {4, 18}, {4, 7}, {3, 27}, {4, 15}, {4, 4}, {3, 24}, {4, 12}, {4, 1}, {3, 21}, {4, 9}, {3, 29}, {4, 17}}
	for _, year := range spans(api.Julian) {
		number, _ := golden.Golden(year)
		d := days[number-1]
		if got := packFull(paschal.FullMoon(api.Julian, year)); got != on(year, d[0], d[1]) {
			t.Errorf("FullMoon(Julian, %d) = %v, want %v for the golden number %d", year, got, d, number)
		}
	}
}

// spoil changes the elements of a table and its unused capacity.
func spoil(l []api.Date) {
	l = l[:cap(l)]
	for i := range l {
		l[i] = date(-7, -7, -7)
	}
}

// Results are newly allocated: a caller that changes a table changes no other
// result.
func TestTableIsNewlyAllocated(t *testing.T) {
	for _, calendar := range both() {
		for _, year := range sample(calendar) {
			kept, _ := paschal.Table(calendar, year)
			want := slices.Clone(kept)
			spoiled, _ := paschal.Table(calendar, year)
			spoil(spoiled)
			if !slices.Equal(kept, want) {
				t.Errorf("Table(%d, %d) = %v became %v", calendar, year, want, kept)
			}
			if got, _ := paschal.Table(calendar, year); !slices.Equal(got, want) {
				t.Errorf("Table(%d, %d) = %v, want %v", calendar, year, got, want)
			}
		}
	}
}

// Results are newly allocated: changed tables spoil no result of any function.
func TestResultsDoNotDependOnEarlierOnes(t *testing.T) {
	all := func() string {
		text := ""
		for _, calendar := range []int{0, api.Julian, api.Gregorian, 3} {
			for _, year := range []int{0, 1, 1582, 1583, 1916, 1940, 1950, 2000, 2024, api.MaxYear, api.MaxYear + 1} {
				l, errno := paschal.Table(calendar, year)
				text += fmt.Sprintln(l, errno, packFull(paschal.FullMoon(calendar, year)))
				for day := range 33 {
					text += fmt.Sprintln(packMoon(paschal.NewMoon(calendar, date(year, 1, day))))
				}
			}
		}
		return text
	}
	before := all()
	for _, calendar := range both() {
		for _, year := range append(noYears(calendar), sample(calendar)...) {
			l, _ := paschal.Table(calendar, year)
			spoil(l)
		}
	}
	if all() != before {
		t.Error("changed results spoil later ones")
	}
}
