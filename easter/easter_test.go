package easter_test

import (
	"math"
	"slices"
	"testing"

	"computus/api"
	"computus/civil"
	"computus/easter"
	"computus/paschal"
)

const (
	least = math.MinInt
	most  = math.MaxInt
)

// dated is what Date returns.
type dated struct {
	d     api.Date
	errno api.Errno
}

func packDate(d api.Date, errno api.Errno) dated { return dated{d, errno} }

func noDate(errno api.Errno) dated { return dated{api.Date{}, errno} }

// on returns an Easter on a date.
func on(year, month, day int) dated { return dated{date(year, month, day), api.OK} }

// number is what Day and Offset return.
type number struct {
	n     int
	errno api.Errno
}

func pack(n int, errno api.Errno) number { return number{n, errno} }

func none(errno api.Errno) number { return number{0, errno} }

func some(n int) number { return number{n, api.OK} }

func date(year, month, day int) api.Date { return api.Date{Year: year, Month: month, Day: day} }

// both lists the calendars.
func both() []int { return []int{api.Julian, api.Gregorian} }

// noCalendars lists numbers that are not calendars.
func noCalendars() []int {
	return []int{0, 3, 4, -1, -2, -3, 1 << 32, 1<<32 + 1, 1<<32 + 2, -1 << 32, -1<<32 + 1, least, least + 1, least + 2, most, most - 1}
}

// firstYear returns the first year of a calendar that has an Easter.
func firstYear(calendar int) int {
	if calendar == api.Julian {
		return api.MinYear
	}
	return api.FirstGregorian
}

// noYears lists years that are not accepted in a calendar.
func noYears(calendar int) []int {
	l := []int{0, -1, -2, -4, -19, -100, -400, -1583, -2000, -api.MaxYear, api.MaxYear + 1, api.MaxYear + 2, api.MaxYear + 19, api.MaxYear + 400, 2 * api.MaxYear, 1 << 32, 1<<32 + 2000, -1 << 32, -1<<32 + 2000, 1 << 62, -1 << 62, least, least + 1, least + 2000, most, most - 1}
	if calendar == api.Gregorian {
		for year := api.MinYear; year < api.FirstGregorian; year++ {
			l = append(l, year)
		}
	}
	return l
}

// spans lists years of a calendar from the whole range: all of the first and the
// last ones, and some in between.
func spans(calendar int) []int {
	first := firstYear(calendar)
	var l []int
	for i := range 3000 {
		l = append(l, first+i, api.MaxYear-i)
	}
	const step = 999_998_000 / 1999
	for year := first; year <= api.MaxYear; year += step {
		l = append(l, year)
	}
	return l
}

// sample lists a few years of a calendar: the ends of the range, common and leap
// years, and years with an early, a middle and a late Easter.
func sample(calendar int) []int {
	return []int{firstYear(calendar), firstYear(calendar) + 1, 1600, 1700, 1818, 1900, 1943, 1954, 1981, 1983, 2000, 2010, 2023, 2024, 2025, api.MaxYear - 1, api.MaxYear}
}

// datesOf lists all dates of a year.
func datesOf(calendar, year int) []api.Date {
	length, _ := civil.YearLength(calendar, year)
	var l []api.Date
	for n := 1; n <= length; n++ {
		d, _ := civil.FromYear(calendar, year, n)
		l = append(l, d)
	}
	return l
}

// P10.1: the examples of the chapter and of the document, and the ends of the
// range.
func TestDateOfKnownYears(t *testing.T) {
	for _, x := range []struct {
		calendar, year, month, day int
	}{
		{api.Gregorian, 2000, 4, 23},
		{api.Julian, 2000, 4, 17},
		{api.Gregorian, 2024, 3, 31},
		{api.Julian, 2024, 4, 22},
		{api.Gregorian, 1981, 4, 19},
		{api.Gregorian, 1954, 4, 18},
		{api.Gregorian, 1818, 3, 22},
		{api.Gregorian, 2008, 3, 23},
		{api.Gregorian, 1913, 3, 23},
		{api.Gregorian, 1916, 4, 23},
		{api.Gregorian, 1943, 4, 25},
		{api.Gregorian, 2019, 4, 21},
		{api.Gregorian, 2038, 4, 25},
		{api.Gregorian, api.FirstGregorian, 4, 10},
		{api.Gregorian, api.FirstGregorian + 1, 4, 1},
		{api.Gregorian, api.MaxYear - 1, 4, 11},
		{api.Gregorian, api.MaxYear, 4, 2},
		{api.Julian, api.MinYear, 3, 27},
		{api.Julian, api.MinYear + 1, 4, 16},
		{api.Julian, 325, 4, 18},
		{api.Julian, api.FirstGregorian - 1, 4, 15},
		{api.Julian, api.FirstGregorian, 3, 31},
		{api.Julian, 1915, 3, 22},
		{api.Julian, 2010, 3, 22},
		{api.Julian, 1983, 4, 25},
		{api.Julian, api.MaxYear - 1, 4, 2},
		{api.Julian, api.MaxYear, 4, 21},
	} {
		if got := packDate(easter.Date(x.calendar, x.year)); got != on(x.year, x.month, x.day) {
			t.Errorf("Date(%d, %d) = %v, want %d-%d", x.calendar, x.year, got, x.month, x.day)
		}
	}
}

// P10.1: the dates of 41 years in a row, in both calendars.
func TestDateFrom1990To2030(t *testing.T) {
	for i, x := range [][4]int{
		{4, 15, 4, 2}, {3, 31, 3, 25}, {4, 19, 4, 13}, {4, 11, 4, 5}, {4, 3, 4, 18}, {4, 16, 4, 10}, {4, 7, 4, 1}, {3, 30, 4, 14}, {4, 12, 4, 6}, {4, 4, 3, 29},
		{4, 23, 4, 17}, {4, 15, 4, 2}, {3, 31, 4, 22}, {4, 20, 4, 14}, {4, 11, 3, 29}, {3, 27, 4, 18}, {4, 16, 4, 10}, {4, 8, 3, 26}, {3, 23, 4, 14}, {4, 12, 4, 6},
		{4, 4, 3, 22}, {4, 24, 4, 11}, {4, 8, 4, 2}, {3, 31, 4, 22}, {4, 20, 4, 7}, {4, 5, 3, 30}, {3, 27, 4, 18}, {4, 16, 4, 3}, {4, 1, 3, 26}, {4, 21, 4, 15},
		{4, 12, 4, 6}, {4, 4, 4, 19}, {4, 17, 4, 11}, {4, 9, 4, 3}, {3, 31, 4, 22}, {4, 20, 4, 7}, {4, 5, 3, 30}, {3, 28, 4, 19}, {4, 16, 4, 3}, {4, 1, 3, 26},
		{4, 21, 4, 15},
	} {
		year := 1990 + i
		if got := packDate(easter.Date(api.Gregorian, year)); got != on(year, x[0], x[1]) {
			t.Errorf("Date(Gregorian, %d) = %v, want %d-%d", year, got, x[0], x[1])
		}
		if got := packDate(easter.Date(api.Julian, year)); got != on(year, x[2], x[3]) {
			t.Errorf("Date(Julian, %d) = %v, want %d-%d", year, got, x[2], x[3])
		}
	}
}

// P10.1: Easter is the earliest Sunday after the paschal full moon.
func TestDateIsTheEarliestSundayAfterTheFullMoon(t *testing.T) {
	for _, calendar := range both() {
		for _, year := range spans(calendar) {
			full, _ := paschal.FullMoon(calendar, year)
			want, _ := civil.Shift(calendar, full, 1)
			for w, _ := civil.Weekday(calendar, want); w != api.Sunday; w, _ = civil.Weekday(calendar, want) {
				want, _ = civil.Shift(calendar, want, 1)
			}
			if got := packDate(easter.Date(calendar, year)); got != (dated{want, api.OK}) {
				t.Errorf("Date(%d, %d) = %v, want %v after the full moon on %v", calendar, year, got, want, full)
			}
		}
	}
}

// P10.1: known years with the full moon on each day of the week: Easter is a
// week later if it is a Sunday, and up to six days later otherwise.
func TestDateAfterFullMoonsOnEachWeekday(t *testing.T) {
	for _, x := range []struct {
		calendar, year, month, day, weekday int
	}{
		{api.Gregorian, 2001, 4, 8, api.Sunday}, {api.Gregorian, 2025, 4, 13, api.Sunday}, {api.Gregorian, 1943, 4, 18, api.Sunday},
		{api.Gregorian, 2024, 3, 25, api.Monday}, {api.Gregorian, 1987, 4, 13, api.Monday},
		{api.Gregorian, 2000, 4, 18, api.Tuesday}, {api.Gregorian, 2010, 3, 30, api.Tuesday},
		{api.Gregorian, 1583, 4, 6, api.Wednesday}, {api.Gregorian, 1989, 3, 22, api.Wednesday},
		{api.Gregorian, 2002, 3, 28, api.Thursday}, {api.Gregorian, 2019, 4, 18, api.Thursday},
		{api.Gregorian, 2005, 3, 25, api.Friday}, {api.Gregorian, 2009, 4, 10, api.Friday},
		{api.Gregorian, 1981, 4, 18, api.Saturday}, {api.Gregorian, 2008, 3, 22, api.Saturday},
		{api.Julian, 18, 4, 17, api.Sunday}, {api.Julian, 1983, 4, 18, api.Sunday}, {api.Julian, 1996, 3, 25, api.Sunday},
		{api.Julian, 7, 4, 18, api.Monday}, {api.Julian, 1972, 3, 21, api.Monday},
		{api.Julian, 2013, 4, 17, api.Tuesday}, {api.Julian, 2015, 3, 25, api.Tuesday},
		{api.Julian, 1988, 3, 24, api.Wednesday}, {api.Julian, 1991, 3, 21, api.Wednesday},
		{api.Julian, 2, 4, 13, api.Thursday}, {api.Julian, 2005, 4, 15, api.Thursday},
		{api.Julian, 1, 3, 25, api.Friday}, {api.Julian, 2008, 4, 12, api.Friday},
		{api.Julian, 2010, 3, 21, api.Saturday}, {api.Julian, 2021, 4, 18, api.Saturday},
	} {
		full, _ := paschal.FullMoon(x.calendar, x.year)
		w, _ := civil.Weekday(x.calendar, full)
		if full != date(x.year, x.month, x.day) || w != x.weekday {
			t.Errorf("the full moon of %d in the calendar %d is on %v, day %d of the week, want %v", x.year, x.calendar, full, w, x)
		}
		want, _ := civil.Shift(x.calendar, full, 7-x.weekday)
		if got := packDate(easter.Date(x.calendar, x.year)); got != (dated{want, api.OK}) {
			t.Errorf("Date(%d, %d) = %v, want %v", x.calendar, x.year, got, want)
		}
	}
}

// P10.1: in both calendars, years with the full moon on every day of the week
// occur, and the day of the week determines how much later Easter is.
func TestEasterFollowsTheFullMoon(t *testing.T) {
	for _, calendar := range both() {
		var counts [7]int
		for _, year := range spans(calendar) {
			full, _ := paschal.FullMoon(calendar, year)
			n, _ := civil.ToDay(calendar, full)
			w, _ := civil.Weekday(calendar, full)
			counts[w]++
			if got := pack(easter.Day(calendar, year)); got != some(n+7-w) {
				t.Errorf("Day(%d, %d) = %v, want %d, as the full moon is on the day %d of the week", calendar, year, got, n+7-w, w)
			}
		}
		if slices.Min(counts[:]) < 500 {
			t.Errorf("the full moons of the calendar %d are on days of the week this often: %v", calendar, counts)
		}
	}
}

// P10.1: the dates recur after the years in which the weeks, the new moons and
// the corrections return.
func TestDatesRecur(t *testing.T) {
	for calendar, cycle := range map[int]int{api.Julian: 532, api.Gregorian: 5_700_000} {
		for i := range 1000 {
			year := firstYear(calendar) + i
			want, _ := easter.Date(calendar, year)
			for _, times := range []int{1, 2, (api.MaxYear - year) / cycle} {
				later := year + cycle*times
				if got := packDate(easter.Date(calendar, later)); got != on(later, want.Month, want.Day) {
					t.Errorf("Date(%d, %d) = %v, want the one of %v", calendar, later, got, want)
				}
			}
		}
	}
}

// P10.1, P10.2: the ends of the range are accepted, and the years beside them
// are not.
func TestEndsOfTheRange(t *testing.T) {
	for _, calendar := range both() {
		first := firstYear(calendar)
		for year, want := range map[int]api.Errno{
			first - 2: api.ErrRange, first - 1: api.ErrRange, first: api.OK, first + 1: api.OK,
			api.MaxYear - 1: api.OK, api.MaxYear: api.OK, api.MaxYear + 1: api.ErrRange, api.MaxYear + 2: api.ErrRange,
		} {
			if got := packDate(easter.Date(calendar, year)); got.errno != want || (got.d == api.Date{}) == (want == api.OK) {
				t.Errorf("Date(%d, %d) = %v, want the error %d", calendar, year, got, want)
			}
			if got := pack(easter.Day(calendar, year)); got.errno != want || (got.n == 0) == (want == api.OK) {
				t.Errorf("Day(%d, %d) = %v, want the error %d", calendar, year, got, want)
			}
			for _, d := range []api.Date{date(year, 1, 1), date(year, 12, 31)} {
				if got := pack(easter.Offset(calendar, d)); got.errno != want || (got.n == 0) == (want == api.OK) {
					t.Errorf("Offset(%d, %v) = %v, want the error %d", calendar, d, got, want)
				}
			}
		}
	}
}

// P10.1, P10.2: the years before the first Gregorian Easter have one in the
// Julian calendar only, and so have their dates an offset, which are valid in
// both.
func TestYearsOfTheJulianCalendarOnly(t *testing.T) {
	for year := api.MinYear; year < api.FirstGregorian; year++ {
		if got := packDate(easter.Date(api.Julian, year)); got.errno != api.OK || got.d.Year != year {
			t.Errorf("Date(Julian, %d) = %v", year, got)
		}
		if got := packDate(easter.Date(api.Gregorian, year)); got != noDate(api.ErrRange) {
			t.Errorf("Date(Gregorian, %d) = %v, want the zero date and ErrRange", year, got)
		}
		if got := pack(easter.Day(api.Gregorian, year)); got != none(api.ErrRange) {
			t.Errorf("Day(Gregorian, %d) = %v, want 0 and ErrRange", year, got)
		}
		d := date(year, 5, 1)
		if got := pack(easter.Offset(api.Julian, d)); got.errno != api.OK || got.n < 6 || got.n > 40 {
			t.Errorf("Offset(Julian, %v) = %v", d, got)
		}
		if got := pack(easter.Offset(api.Gregorian, d)); got != none(api.ErrRange) {
			t.Errorf("Offset(Gregorian, %v) = %v, want 0 and ErrRange", d, got)
		}
	}
}

// outside lists months and days that no year has.
func outside() [][2]int {
	extremes := []int{0, -1, -2, -12, -28, -31, least, least + 1, least + 3, -1 << 32, -1<<32 + 1, 1 << 32, 1<<32 + 1, 1<<32 + 3, 1 << 62, most - 1, most}
	noMonths := append([]int{13, 14, 24, 25, 256, 257}, extremes...)
	noDays := append([]int{32, 33, 60, 100, 256, 257}, extremes...)
	l := [][2]int{{2, 30}, {2, 31}, {4, 31}, {6, 31}, {9, 31}, {11, 31}}
	for month := 1; month <= 12; month++ {
		for _, day := range noDays {
			l = append(l, [2]int{month, day})
		}
	}
	for _, month := range noMonths {
		for _, day := range append([]int{1, 2, 12, 21, 28, 29, 30, 31}, noDays...) {
			l = append(l, [2]int{month, day})
		}
	}
	return l
}

// P10.1, P10.2: years out of range, before ErrDate.
func TestYearsOutOfRange(t *testing.T) {
	days := append(outside(), [2]int{1, 1}, [2]int{2, 29}, [2]int{3, 31}, [2]int{4, 11}, [2]int{12, 31})
	for _, calendar := range both() {
		for _, year := range noYears(calendar) {
			if got := packDate(easter.Date(calendar, year)); got != noDate(api.ErrRange) {
				t.Errorf("Date(%d, %d) = %v, want the zero date and ErrRange", calendar, year, got)
			}
			if got := pack(easter.Day(calendar, year)); got != none(api.ErrRange) {
				t.Errorf("Day(%d, %d) = %v, want 0 and ErrRange", calendar, year, got)
			}
			for _, x := range days {
				d := date(year, x[0], x[1])
				if got := pack(easter.Offset(calendar, d)); got != none(api.ErrRange) {
					t.Errorf("Offset(%d, %v) = %v, want 0 and ErrRange", calendar, d, got)
				}
			}
		}
	}
}

// P10.1, P10.2: numbers that are not calendars, before ErrRange and ErrDate.
func TestNoSuchCalendar(t *testing.T) {
	years := append(noYears(api.Gregorian), api.FirstGregorian, 1900, 2000, 2024, api.MaxYear)
	for _, calendar := range noCalendars() {
		for _, year := range years {
			if got := packDate(easter.Date(calendar, year)); got != noDate(api.ErrArg) {
				t.Errorf("Date(%d, %d) = %v, want the zero date and ErrArg", calendar, year, got)
			}
			if got := pack(easter.Day(calendar, year)); got != none(api.ErrArg) {
				t.Errorf("Day(%d, %d) = %v, want 0 and ErrArg", calendar, year, got)
			}
			for _, x := range [][2]int{{1, 1}, {2, 29}, {3, 31}, {12, 31}, {2, 30}, {13, 1}, {0, 0}, {1, 32}, {least, least}, {most, most}} {
				d := date(year, x[0], x[1])
				if got := pack(easter.Offset(calendar, d)); got != none(api.ErrArg) {
					t.Errorf("Offset(%d, %v) = %v, want 0 and ErrArg", calendar, d, got)
				}
			}
		}
	}
}

// P10.2: known day numbers.
func TestDayOfKnownYears(t *testing.T) {
	for _, x := range []struct{ calendar, year, want int }{
		// 1 January 2000 of the Gregorian calendar is the day 730120.
		{api.Gregorian, 2000, 730120 + 113},
		{api.Julian, 2000, 730120 + 120},
		{api.Gregorian, 2001, 730120 + 366 + 104},
		{api.Julian, 2001, 730120 + 366 + 104},
		{api.Gregorian, 2024, 730120 + 8766 + 90},
		{api.Julian, 2024, 730120 + 8766 + 125},
		// 1 January 1 of the Julian calendar is two days before the Gregorian one.
		{api.Julian, api.MinYear, 1 - 2 + 85},
	} {
		if got := pack(easter.Day(x.calendar, x.year)); got != some(x.want) {
			t.Errorf("Day(%d, %d) = %v, want %d", x.calendar, x.year, got, x.want)
		}
	}
}

// P10.2: the day is the day number of the date.
func TestDayIsTheNumberOfDate(t *testing.T) {
	for _, calendar := range both() {
		for _, year := range spans(calendar) {
			d, _ := easter.Date(calendar, year)
			n, _ := civil.ToDay(calendar, d)
			if got := pack(easter.Day(calendar, year)); got != some(n) {
				t.Errorf("Day(%d, %d) = %v, want %d for %v", calendar, year, got, n, d)
			}
		}
	}
}

// P10.2: known offsets: Easter itself, the days around it, feasts that depend on
// it, the ends of years, and the days around 29 February.
func TestOffsetOfKnownDates(t *testing.T) {
	for _, x := range []struct {
		calendar int
		d        api.Date
		want     int
	}{
		{api.Gregorian, date(2000, 4, 23), 0}, {api.Gregorian, date(2000, 4, 22), -1}, {api.Gregorian, date(2000, 4, 24), 1},
		{api.Julian, date(2000, 4, 17), 0}, {api.Julian, date(2000, 4, 16), -1}, {api.Julian, date(2000, 4, 18), 1},
		{api.Gregorian, date(2024, 3, 31), 0}, {api.Gregorian, date(2024, 3, 30), -1}, {api.Gregorian, date(2024, 4, 1), 1},
		{api.Gregorian, date(2024, 2, 14), -46}, {api.Gregorian, date(2024, 3, 24), -7}, {api.Gregorian, date(2024, 4, 7), 7}, {api.Gregorian, date(2024, 5, 9), 39}, {api.Gregorian, date(2024, 5, 19), 49}, {api.Gregorian, date(2024, 5, 30), 60},
		{api.Gregorian, date(2024, 2, 28), -32}, {api.Gregorian, date(2024, 2, 29), -31}, {api.Gregorian, date(2024, 3, 1), -30},
		{api.Gregorian, date(2023, 2, 28), -40}, {api.Gregorian, date(2023, 3, 1), -39},
		{api.Gregorian, date(2024, 1, 1), -90}, {api.Gregorian, date(2024, 12, 31), 275}, {api.Gregorian, date(2023, 12, 31), 266}, {api.Gregorian, date(2025, 1, 1), -109},
		{api.Julian, date(2024, 2, 28), -54}, {api.Julian, date(2024, 2, 29), -53}, {api.Julian, date(2024, 3, 1), -52},
		{api.Julian, date(2024, 1, 1), -112}, {api.Julian, date(2024, 12, 31), 253}, {api.Julian, date(2024, 4, 22), 0}, {api.Julian, date(2024, 6, 10), 49},
		{api.Julian, date(1900, 2, 28), -41}, {api.Julian, date(1900, 2, 29), -40}, {api.Julian, date(1900, 3, 1), -39},
		{api.Julian, date(2010, 3, 21), -1}, {api.Julian, date(2010, 3, 22), 0}, {api.Julian, date(1983, 4, 25), 0}, {api.Julian, date(1983, 4, 26), 1},
		{api.Gregorian, date(1818, 3, 22), 0}, {api.Gregorian, date(1943, 4, 25), 0}, {api.Gregorian, date(1943, 1, 1), -114}, {api.Gregorian, date(1818, 12, 31), 284},
		{api.Gregorian, date(api.FirstGregorian, 1, 1), -99}, {api.Gregorian, date(api.MaxYear, 12, 31), 273}, {api.Gregorian, date(api.MaxYear, 4, 2), 0},
		{api.Julian, date(api.MinYear, 1, 1), -85}, {api.Julian, date(api.MaxYear, 12, 31), 254}, {api.Julian, date(api.MaxYear, 4, 21), 0},
	} {
		if got := pack(easter.Offset(x.calendar, x.d)); got != some(x.want) {
			t.Errorf("Offset(%d, %v) = %v, want %d", x.calendar, x.d, got, x.want)
		}
	}
}

// P10.2: the offsets of all dates of a year grow by one from day to day, from
// before Easter to 0 on Easter and on after it.
func TestOffsetOfEveryDate(t *testing.T) {
	for _, calendar := range both() {
		for _, year := range sample(calendar) {
			easterDate, _ := easter.Date(calendar, year)
			dates := datesOf(calendar, year)
			at := slices.Index(dates, easterDate)
			if at < 0 {
				t.Fatalf("Date(%d, %d) = %v is not in the year", calendar, year, easterDate)
			}
			for i, d := range dates {
				if got := pack(easter.Offset(calendar, d)); got != some(i-at) {
					t.Errorf("Offset(%d, %v) = %v, want %d", calendar, d, got, i-at)
				}
			}
		}
	}
}

// P10.2: the offset is from Easter of the year of the date.
func TestOffsetOfNearbyDates(t *testing.T) {
	for _, calendar := range both() {
		for _, year := range spans(calendar) {
			d, _ := easter.Date(calendar, year)
			length, _ := civil.YearLength(calendar, year)
			n, _ := civil.OfYear(calendar, d)
			before, _ := civil.Shift(calendar, d, -1)
			after, _ := civil.Shift(calendar, d, 1)
			for x, want := range map[api.Date]int{
				before: -1, d: 0, after: 1, date(year, 1, 1): 1 - n, date(year, 12, 31): length - n,
			} {
				if got := pack(easter.Offset(calendar, x)); got != some(want) {
					t.Errorf("Offset(%d, %v) = %v, want %d", calendar, x, got, want)
				}
			}
		}
	}
}

// P10.2: dates that are not valid, with 0.
func TestOffsetOfNoDate(t *testing.T) {
	for _, calendar := range both() {
		for _, year := range sample(calendar) {
			for _, x := range outside() {
				d := date(year, x[0], x[1])
				if got := pack(easter.Offset(calendar, d)); got != none(api.ErrDate) {
					t.Errorf("Offset(%d, %v) = %v, want 0 and ErrDate", calendar, d, got)
				}
			}
		}
	}
}

// P10.2: 29 February of common and of leap years.
func TestOffsetOf29February(t *testing.T) {
	for _, x := range []struct {
		calendar, year int
		want           number
	}{
		{api.Julian, 1900, some(-40)}, {api.Gregorian, 1900, none(api.ErrDate)},
		{api.Julian, 1700, some(-31)}, {api.Gregorian, 1700, none(api.ErrDate)},
		{api.Julian, 2000, some(-48)}, {api.Gregorian, 2000, some(-54)},
		{api.Julian, 2023, none(api.ErrDate)}, {api.Gregorian, 2023, none(api.ErrDate)},
		{api.Julian, 2024, some(-53)}, {api.Gregorian, 2024, some(-31)},
		{api.Julian, api.MaxYear, some(-52)}, {api.Gregorian, api.MaxYear, some(-33)},
		{api.Julian, api.MinYear, none(api.ErrDate)}, {api.Gregorian, api.FirstGregorian, none(api.ErrDate)},
	} {
		if got := pack(easter.Offset(x.calendar, date(x.year, 2, 29))); got != x.want {
			t.Errorf("Offset(%d, 29 February %d) = %v, want %v", x.calendar, x.year, got, x.want)
		}
	}
}

// P10.2: the dates that have an offset are those of the calendar.
func TestOffsetAcceptsTheDatesOfTheCalendar(t *testing.T) {
	for _, calendar := range both() {
		for _, year := range sample(calendar) {
			first, _ := easter.Day(calendar, year)
			for month := -1; month <= 14; month++ {
				for day := -1; day <= 33; day++ {
					d := date(year, month, day)
					n, errno := civil.ToDay(calendar, d)
					want := some(n - first)
					if errno != api.OK {
						want = none(errno)
					}
					if got := pack(easter.Offset(calendar, d)); got != want {
						t.Errorf("Offset(%d, %v) = %v, want %v", calendar, d, got, want)
					}
				}
			}
		}
	}
}

// P10.3: Easter is a Sunday of its year from 22 March to 25 April, and reaches
// each of these days in both calendars.
func TestEasterIsASundayOfSpring(t *testing.T) {
	for _, calendar := range both() {
		reached := map[[2]int]bool{}
		for _, year := range spans(calendar) {
			d, errno := easter.Date(calendar, year)
			w, _ := civil.Weekday(calendar, d)
			inMarch := d.Month == 3 && d.Day >= 22 && d.Day <= 31
			inApril := d.Month == 4 && d.Day >= 1 && d.Day <= 25
			if errno != api.OK || d.Year != year || w != api.Sunday || !inMarch && !inApril {
				t.Errorf("Date(%d, %d) = %v, %d", calendar, year, d, errno)
			}
			reached[[2]int{d.Month, d.Day}] = true
		}
		if len(reached) != 35 || !reached[[2]int{3, 22}] || !reached[[2]int{4, 25}] {
			t.Errorf("the Easters of the calendar %d are on %d days: %v", calendar, len(reached), reached)
		}
	}
}

// P10.3: all years up to 2500 with the earliest and the latest Easter.
func TestEarliestAndLatestEaster(t *testing.T) {
	for _, x := range []struct {
		calendar, month, day int
		want                 []int
	}{
		{api.Gregorian, 3, 22, []int{1598, 1693, 1761, 1818, 2285, 2353, 2437}},
		{api.Gregorian, 4, 25, []int{1666, 1734, 1886, 1943, 2038, 2190, 2258, 2326, 2410}},
		{api.Julian, 3, 22, []int{72, 319, 414, 509, 604, 851, 946, 1041, 1136, 1383, 1478, 1573, 1668, 1915, 2010, 2105, 2200, 2447}},
		{api.Julian, 4, 25, []int{45, 140, 387, 482, 577, 672, 919, 1014, 1109, 1204, 1451, 1546, 1641, 1736, 1983, 2078, 2173, 2268}},
	} {
		var got []int
		for year := firstYear(x.calendar); year <= 2500; year++ {
			if d, _ := easter.Date(x.calendar, year); d == date(year, x.month, x.day) {
				got = append(got, year)
			}
		}
		if !slices.Equal(got, x.want) {
			t.Errorf("Easter is on %d-%d of the calendar %d in %v, want %v", x.month, x.day, x.calendar, got, x.want)
		}
	}
}
