package anchor_test

import (
	"testing"

	"computus/anchor"
	"computus/api"
	"computus/gauss"
	"computus/gregorian"
)

// number is what Day returns.
type number struct {
	n     int
	errno api.Errno
}

func pack(n int, errno api.Errno) number { return number{n, errno} }

// dated is what Date returns.
type dated struct {
	d     api.Date
	errno api.Errno
}

func packDate(d api.Date, errno api.Errno) dated { return dated{d, errno} }

// expectError tests that neither Day nor Date has a result.
func expectError(t *testing.T, a api.Anchor, year int, errno api.Errno) {
	t.Helper()
	if got := pack(anchor.Day(a, year)); got != (number{0, errno}) {
		t.Errorf("Day(%+v, %d) = %v, want %v", a, year, got, number{0, errno})
	}
	if got := packDate(anchor.Date(a, year)); got != (dated{api.Date{}, errno}) {
		t.Errorf("Date(%+v, %d) = %v, want %v", a, year, got, dated{api.Date{}, errno})
	}
}

// expectDay tests the day and the date of an anchor.
func expectDay(t *testing.T, a api.Anchor, year, n int, d api.Date) {
	t.Helper()
	if got := pack(anchor.Day(a, year)); got != (number{n, api.OK}) {
		t.Errorf("Day(%+v, %d) = %v, want %d", a, year, got, n)
	}
	if got := packDate(anchor.Date(a, year)); got != (dated{d, api.OK}) {
		t.Errorf("Date(%+v, %d) = %v, want %v", a, year, got, d)
	}
}

// known is an anchor with its date in a year.
type known struct {
	a                api.Anchor
	year, month, day int
}

// expectKnown tests known dates.
func expectKnown(t *testing.T, l []known) {
	t.Helper()
	for _, x := range l {
		d := api.Date{Year: x.year, Month: x.month, Day: x.day}
		n, errno := gregorian.ToDay(d)
		if errno != api.OK {
			t.Fatalf("%v is not a date", d)
		}
		expectDay(t, x.a, x.year, n, d)
	}
}

// almanac is a year whose days are counted one by one, the first one with the
// index 0.
type almanac struct {
	t      *testing.T
	year   int
	first  int
	days   []api.Date
	easter int
}

// almanacOf returns the almanac of a year.
func almanacOf(t *testing.T, year int) almanac {
	t.Helper()
	first, errno := gregorian.First(year)
	if errno != api.OK {
		t.Fatalf("no year %d", year)
	}
	y := almanac{t: t, year: year, first: first}
	for month := 1; month <= 12; month++ {
		for day := 1; day <= gregorian.Length(year, month); day++ {
			y.days = append(y.days, api.Date{Year: year, Month: month, Day: day})
		}
	}
	easter, _ := gauss.Date(api.Gregorian, year)
	y.easter = y.index(easter.Month, easter.Day)
	return y
}

// index returns the index of a month and day.
func (y almanac) index(month, day int) int {
	for i, d := range y.days {
		if d.Month == month && d.Day == day {
			return i
		}
	}
	y.t.Fatalf("no %d-%d in %d", month, day, y.year)
	return 0
}

// count returns the index of the count-th day with this day of the week from an
// index on, or back from it.
func (y almanac) count(i, weekday, count int) int {
	step := 1
	if count < 0 {
		step, count = -1, -count
	}
	for {
		if (y.first+i)%7 == weekday {
			count--
		}
		if count == 0 {
			return i
		}
		i += step
	}
}

// expect tests the day of an anchor by its index.
func (y almanac) expect(a api.Anchor, i int) {
	y.t.Helper()
	if i < 0 || i >= len(y.days) {
		y.t.Fatalf("the day of %+v is not in %d", a, y.year)
	}
	expectDay(y.t, a, y.year, y.first+i, y.days[i])
}

// expectFixed tests all fixed days.
func (y almanac) expectFixed() {
	y.t.Helper()
	for i, d := range y.days {
		if d.Month == 2 && d.Day == 29 {
			expectError(y.t, fixed(d.Month, d.Day), y.year, api.ErrArg)
			continue
		}
		y.expect(fixed(d.Month, d.Day), i)
	}
}

// expectPaschal tests all offsets from Easter.
func (y almanac) expectPaschal() {
	y.t.Helper()
	for offset := -80; offset <= 250; offset++ {
		y.expect(paschal(offset), y.easter+offset)
	}
}

// expectNth tests all weekdays and counts on either side of a month and day.
func (y almanac) expectNth(month, day int) {
	y.t.Helper()
	i := y.index(month, day)
	for weekday := api.Sunday; weekday <= api.Saturday; weekday++ {
		for count := -9; count <= 9; count++ {
			a := nth(month, day, weekday, count)
			if !isWellFormed(a) {
				expectError(y.t, a, y.year, api.ErrArg)
				continue
			}
			y.expect(a, y.count(i, weekday, count))
		}
	}
}

// eachKind lists a common year and a leap year that begin on each day of the
// week, and years with the earliest and with the latest Easter.
func eachKind() []int {
	return []int{2017, 2018, 2019, 2021, 2022, 2023, 2026, 2000, 2004, 2008, 2012, 2016, 2020, 2024, 1598, 1818, 2285, 2972, 1666, 1943, 2038, 3784}
}

// spans lists years from the whole range: all of the first and the last ones,
// and many in between.
func spans() []int {
	var l []int
	for i := range 60 {
		l = append(l, api.FirstGregorian+i, api.MaxYear-i, 1880+i, 1990+i)
	}
	for year := api.FirstGregorian; year <= api.MaxYear; year += 9_999_973 {
		l = append(l, year)
	}
	return l
}

// P16.2: known day numbers.
func TestDayOfKnownNumbers(t *testing.T) {
	for _, x := range []struct {
		a       api.Anchor
		year, n int
	}{
		{fixed(1, 1), 2000, 730_120},
		{fixed(2, 28), 2000, 730_178},
		{fixed(3, 1), 2000, 730_180},
		{fixed(12, 31), 2000, 730_485},
		{paschal(0), 2000, 730_233},
		{paschal(-80), 2000, 730_153},
		{paschal(250), 2000, 730_483},
		{nth(1, 1, api.Saturday, 1), 2000, 730_120},
		{nth(1, 1, api.Sunday, 1), 2000, 730_121},
		{nth(1, 1, api.Saturday, 2), 2000, 730_127},
		{nth(12, 31, api.Sunday, -1), 2000, 730_485},
		{nth(12, 31, api.Sunday, -2), 2000, 730_478},
		{nth(12, 31, api.Monday, -1), 2000, 730_479},
		{fixed(12, 31), api.MaxYear, 365_242_500_000},
		{fixed(1, 1), api.MaxYear, 365_242_499_635},
	} {
		if got := pack(anchor.Day(x.a, x.year)); got != (number{x.n, api.OK}) {
			t.Errorf("Day(%+v, %d) = %v, want %d", x.a, x.year, got, x.n)
		}
	}
}

// P16.2: the examples of the chapter and of the document.
func TestDateOfExamples(t *testing.T) {
	expectKnown(t, []known{
		{nth(11, 27, api.Sunday, 1), 2024, 12, 1},
		{paschal(-46), 2024, 2, 14},
		{paschal(0), 2024, 3, 31},
		{paschal(0), 1981, 4, 19},
		{paschal(0), 1954, 4, 18},
		{paschal(-6), 2024, 3, 25},
		{paschal(8), 2024, 4, 8},
		{fixed(3, 25), 2024, 3, 25},
		{fixed(6, 24), 2022, 6, 24},
		{paschal(68), 2022, 6, 24},
	})
}

// P16.2: known dates of fixed days, before and after the leap day.
func TestDateOfFixedDays(t *testing.T) {
	var l []known
	for _, year := range []int{api.FirstGregorian, 1600, 1700, 1900, 2000, 2023, 2024, 2100, api.MaxYear - 1, api.MaxYear} {
		for _, x := range [][2]int{{1, 1}, {1, 31}, {2, 1}, {2, 28}, {3, 1}, {6, 30}, {12, 25}, {12, 31}} {
			l = append(l, known{fixed(x[0], x[1]), year, x[0], x[1]})
		}
	}
	expectKnown(t, l)
}

// P16.2: known dates of the first and the last offset, and of some in between,
// in years with the earliest and the latest Easter, in common and leap years,
// and at the ends of the range.
func TestDateOfOffsets(t *testing.T) {
	offsets := []int{-80, -46, -7, -2, 0, 1, 39, 49, 56, 60, 250}
	for _, x := range []struct {
		year  int
		dates [11][2]int
	}{
		{1598, [11][2]int{{1, 1}, {2, 4}, {3, 15}, {3, 20}, {3, 22}, {3, 23}, {4, 30}, {5, 10}, {5, 17}, {5, 21}, {11, 27}}},
		{2972, [11][2]int{{1, 2}, {2, 5}, {3, 15}, {3, 20}, {3, 22}, {3, 23}, {4, 30}, {5, 10}, {5, 17}, {5, 21}, {11, 27}}},
		{1666, [11][2]int{{2, 4}, {3, 10}, {4, 18}, {4, 23}, {4, 25}, {4, 26}, {6, 3}, {6, 13}, {6, 20}, {6, 24}, {12, 31}}},
		{3784, [11][2]int{{2, 5}, {3, 10}, {4, 18}, {4, 23}, {4, 25}, {4, 26}, {6, 3}, {6, 13}, {6, 20}, {6, 24}, {12, 31}}},
		{2024, [11][2]int{{1, 11}, {2, 14}, {3, 24}, {3, 29}, {3, 31}, {4, 1}, {5, 9}, {5, 19}, {5, 26}, {5, 30}, {12, 6}}},
		{2000, [11][2]int{{2, 3}, {3, 8}, {4, 16}, {4, 21}, {4, 23}, {4, 24}, {6, 1}, {6, 11}, {6, 18}, {6, 22}, {12, 29}}},
		{api.FirstGregorian, [11][2]int{{1, 20}, {2, 23}, {4, 3}, {4, 8}, {4, 10}, {4, 11}, {5, 19}, {5, 29}, {6, 5}, {6, 9}, {12, 16}}},
		{api.MaxYear - 1, [11][2]int{{1, 21}, {2, 24}, {4, 4}, {4, 9}, {4, 11}, {4, 12}, {5, 20}, {5, 30}, {6, 6}, {6, 10}, {12, 17}}},
		{api.MaxYear, [11][2]int{{1, 13}, {2, 16}, {3, 26}, {3, 31}, {4, 2}, {4, 3}, {5, 11}, {5, 21}, {5, 28}, {6, 1}, {12, 8}}},
	} {
		var l []known
		for i, d := range x.dates {
			l = append(l, known{paschal(offsets[i]), x.year, d[0], d[1]})
		}
		expectKnown(t, l)
	}
}

// P16.2: known dates of the kind Nth.
func TestDateOfNthDays(t *testing.T) {
	expectKnown(t, []known{
		{nth(11, 27, api.Sunday, 1), 2019, 12, 1},
		{nth(11, 27, api.Sunday, 1), 2020, 11, 29},
		{nth(11, 27, api.Sunday, 1), 2021, 11, 28},
		{nth(11, 27, api.Sunday, 1), 2022, 11, 27},
		{nth(11, 27, api.Sunday, 1), 2023, 12, 3},
		{nth(11, 27, api.Sunday, 1), 2025, 11, 30},
		{nth(11, 27, api.Sunday, 1), 1900, 12, 2},
		{nth(11, 27, api.Sunday, 1), 2000, 12, 3},
		{nth(2, 28, api.Thursday, 1), 2023, 3, 2},
		{nth(3, 1, api.Thursday, -1), 2023, 2, 23},
		{nth(5, 1, api.Sunday, 2), 2023, 5, 14},
		{nth(5, 31, api.Monday, -1), 2023, 5, 29},
		{nth(9, 14, api.Wednesday, 1), 2023, 9, 20},
		{nth(2, 28, api.Thursday, 1), 2024, 2, 29},
		{nth(3, 1, api.Thursday, -1), 2024, 2, 29},
		{nth(5, 1, api.Sunday, 2), 2024, 5, 12},
		{nth(5, 31, api.Monday, -1), 2024, 5, 27},
		{nth(9, 14, api.Wednesday, 1), 2024, 9, 18},
		{nth(2, 28, api.Thursday, 1), 1900, 3, 1},
		{nth(3, 1, api.Thursday, -1), 1900, 3, 1},
		{nth(5, 1, api.Sunday, 2), 1900, 5, 13},
		{nth(5, 31, api.Monday, -1), 1900, 5, 28},
		{nth(9, 14, api.Wednesday, 1), 1900, 9, 19},
		{nth(2, 28, api.Thursday, 1), 2000, 3, 2},
		{nth(3, 1, api.Thursday, -1), 2000, 2, 24},
		{nth(5, 1, api.Sunday, 2), 2000, 5, 14},
		{nth(5, 31, api.Monday, -1), 2000, 5, 29},
		{nth(9, 14, api.Wednesday, 1), 2000, 9, 20},
		{nth(2, 28, api.Thursday, 1), api.MaxYear - 1, 3, 4},
		{nth(3, 1, api.Thursday, -1), api.MaxYear - 1, 2, 25},
		{nth(5, 1, api.Sunday, 2), api.MaxYear - 1, 5, 9},
		{nth(5, 31, api.Monday, -1), api.MaxYear - 1, 5, 31},
		{nth(9, 14, api.Wednesday, 1), api.MaxYear - 1, 9, 15},
	})
}

// P16.2: the last month and day of the counts 1 and 8, and the first ones of -1
// and -8, with the nearest and the farthest days, in common and leap years and
// at the ends of the range.
func TestDateAtBoundsOfCounts(t *testing.T) {
	for _, x := range []struct {
		year, afterDecember, beforeJanuary int
	}{
		// The days of the week of 25 December, which is also that of 6 November,
		// and of 7 January, which is also that of 25 February.
		{2023, api.Monday, api.Saturday},
		{2024, api.Wednesday, api.Sunday},
		{api.FirstGregorian, api.Sunday, api.Friday},
		{api.MaxYear, api.Monday, api.Friday},
	} {
		for later := range 7 {
			weekday := (x.afterDecember + later) % 7
			expectKnown(t, []known{
				{nth(12, 25, weekday, 1), x.year, 12, 25 + later},
				{nth(11, 6, weekday, 8), x.year, 12, 25 + later},
			})
		}
		for earlier := range 7 {
			weekday := (x.beforeJanuary + 7 - earlier) % 7
			expectKnown(t, []known{
				{nth(1, 7, weekday, -1), x.year, 1, 7 - earlier},
				{nth(2, 25, weekday, -8), x.year, 1, 7 - earlier},
			})
		}
	}
}

// P16.2 and P16.3: in years of each kind, the days of all well-formed anchors
// are those that are found by counting, all of which are in the year.
func TestDayOfAllAnchors(t *testing.T) {
	for _, year := range eachKind() {
		y := almanacOf(t, year)
		y.expectFixed()
		y.expectPaschal()
		for _, d := range y.days {
			if d.Month != 2 || d.Day != 29 {
				y.expectNth(d.Month, d.Day)
			}
		}
	}
}

// P16.2 and P16.3: in many years, the days of many anchors are those that are
// found by counting, all of which are in the year.
func TestDayInManyYears(t *testing.T) {
	for _, year := range spans() {
		y := almanacOf(t, year)
		y.expectFixed()
		y.expectPaschal()
		for _, x := range [][2]int{{1, 1}, {1, 7}, {2, 25}, {2, 28}, {3, 1}, {7, 2}, {11, 6}, {11, 27}, {12, 25}, {12, 31}} {
			y.expectNth(x[0], x[1])
		}
	}
}

// noYears lists years that are out of range.
func noYears() []int {
	l := []int{0, -1, -4, -19, -400, -1583, -2000, -2024, -api.MaxYear, api.MaxYear + 1, api.MaxYear + 2, api.MaxYear + 400, 2 * api.MaxYear, 1 << 32, 1<<32 + 2000, -1 << 32, -1<<32 + 2000, 1 << 62, -1 << 62, least, least + 1, least + 2000, most, most - 1}
	for year := api.MinYear; year < api.FirstGregorian; year++ {
		l = append(l, year)
	}
	return l
}

// P16.2: the first and the last year that have days, and the years next to them.
func TestDayAtTheEndsOfTheRange(t *testing.T) {
	for _, a := range wellFormed() {
		for _, year := range []int{1583, 1584, 999_999_999, 1_000_000_000} {
			if got := packDate(anchor.Date(a, year)); got.errno != api.OK || got.d.Year != year {
				t.Errorf("Date(%+v, %d) = %v", a, year, got)
			}
		}
		for _, year := range []int{1582, 1581, 1_000_000_001, 1_000_000_002} {
			expectError(t, a, year, api.ErrRange)
		}
	}
}

// P16.2: no anchor has a day in years that are out of range.
func TestDayOfYearsOutOfRange(t *testing.T) {
	for _, a := range append(wellFormed(), paschal(-80), paschal(250), fixed(1, 1), fixed(12, 31), nth(1, 1, api.Sunday, 1), nth(12, 31, api.Saturday, -1)) {
		for _, year := range noYears() {
			expectError(t, a, year, api.ErrRange)
		}
	}
}

// notWellFormed lists anchors that are not well-formed.
func notWellFormed() []api.Anchor {
	l := []api.Anchor{
		{}, {Kind: 4, Month: 6, Day: 24}, {Kind: -1, Month: 6, Day: 24}, {Kind: 0, Month: 6, Day: 24}, {Kind: least}, {Kind: most},
		fixed(2, 29), fixed(0, 1), fixed(13, 1), fixed(1, 0), fixed(1, 32), fixed(4, 31), fixed(-1, -1),
		paschal(-81), paschal(251),
		nth(6, 24, 7, 1), nth(6, 24, -1, 1), nth(6, 24, api.Sunday, 0), nth(6, 24, api.Sunday, 9), nth(6, 24, api.Sunday, -9),
		nth(2, 29, api.Sunday, 1), nth(2, 29, api.Sunday, -1), nth(6, 31, api.Sunday, 1), nth(13, 1, api.Sunday, -1), nth(0, 0, api.Sunday, 1),
		nth(12, 26, api.Sunday, 1), nth(11, 7, api.Sunday, 8), nth(1, 6, api.Sunday, -1), nth(2, 24, api.Sunday, -8),
		{Kind: api.Fixed, Month: 6, Day: 24, Offset: 1}, {Kind: api.Fixed, Month: 6, Day: 24, Weekday: 1}, {Kind: api.Fixed, Month: 6, Day: 24, Count: 1},
		{Kind: api.Paschal, Month: 6}, {Kind: api.Paschal, Day: 24}, {Kind: api.Paschal, Weekday: 1}, {Kind: api.Paschal, Count: 1},
		{Kind: api.Nth, Month: 6, Day: 24, Offset: 1, Count: 1},
	}
	for _, x := range far() {
		l = append(l, fixed(x, 1), fixed(1, x), paschal(x), nth(x, 24, 0, 1), nth(6, x, 0, 1), nth(6, 24, x, 1), nth(6, 24, 0, x))
	}
	return l
}

// P16.2: an anchor that is not well-formed is the first error, whether the year
// is in range or not.
func TestDayOfAnchorsThatAreNotWellFormed(t *testing.T) {
	years := []int{1583, 1598, 1666, 2000, 2023, 2024, 999_999_999, 1_000_000_000, 0, 1, -1, 1582, 1_000_000_001, least, most}
	for _, a := range notWellFormed() {
		for _, year := range years {
			expectError(t, a, year, api.ErrArg)
		}
	}
}
