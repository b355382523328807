package gauss_test

import (
	"math"
	"slices"
	"testing"

	"computus/api"
	"computus/civil"
	"computus/easter"
	"computus/gauss"
)

const (
	least = math.MinInt
	most  = math.MaxInt
)

// dated is what Date returns.
type dated struct {
	d     api.Date
	errno api.Errno
}

func packDate(d api.Date, errno api.Errno) dated { return dated{d, errno} }

func noDate(errno api.Errno) dated { return dated{api.Date{}, errno} }

// on returns an Easter on a date.
func on(year, month, day int) dated {
	return dated{api.Date{Year: year, Month: month, Day: day}, api.OK}
}

// traced is what Trace returns.
type traced struct {
	s     gauss.Steps
	errno api.Errno
}

func packSteps(s gauss.Steps, errno api.Errno) traced { return traced{s, errno} }

func noSteps(errno api.Errno) traced { return traced{gauss.Steps{}, errno} }

// steps returns the steps of a year that has an Easter.
func steps(m, n, d, e, exception int) traced {
	return traced{gauss.Steps{M: m, N: n, D: d, E: e, Exception: exception}, api.OK}
}

// both lists the calendars.
func both() []int { return []int{api.Julian, api.Gregorian} }

// firstYear returns the first year of a calendar that has an Easter.
func firstYear(calendar int) int {
	if calendar == api.Julian {
		return api.MinYear
	}
	return api.FirstGregorian
}

// noCalendars lists numbers that are not calendars.
func noCalendars() []int {
	return []int{0, 3, 4, 5, -1, -2, -3, 1 << 32, 1<<32 + 1, 1<<32 + 2, -1 << 32, -1<<32 + 1, -1<<32 + 2, least, least + 1, least + 2, most, most - 1}
}

// noYears lists years that are not accepted in a calendar.
func noYears(calendar int) []int {
	l := []int{0, -1, -2, -4, -19, -100, -400, -1583, -2000, -api.MaxYear, api.MaxYear + 1, api.MaxYear + 2, api.MaxYear + 19, api.MaxYear + 400, 2 * api.MaxYear, 1 << 32, 1<<32 + 2000, -1 << 32, -1<<32 + 2000, 1 << 62, -1 << 62, least, least + 1, least + 2000, most, most - 1}
	if calendar == api.Gregorian {
		for year := api.MinYear; year < api.FirstGregorian; year++ {
			l = append(l, year)
		}
	}
	return l
}

// spans lists years of a calendar from the whole range: all of the first and the
// last ones, and many in between.
func spans(calendar int) []int {
	first := firstYear(calendar)
	var l []int
	for i := range 6000 {
		l = append(l, first+i, api.MaxYear-i)
	}
	for year := first; year <= api.MaxYear; year += 49_999 {
		l = append(l, year)
	}
	return l
}

// after returns the date that is some days after 22 March of a year.
func after(calendar, year, days int) dated {
	return packDate(civil.Shift(calendar, api.Date{Year: year, Month: 3, Day: 22}, days))
}

// P11.1: the examples of the chapter and of the document, and the ends of the
// range.
func TestDateOfKnownYears(t *testing.T) {
	for _, x := range []struct {
		calendar, year, month, day int
	}{
		{api.Gregorian, 1981, 4, 19},
		{api.Gregorian, 1954, 4, 18},
		{api.Gregorian, 1961, 4, 2},
		{api.Gregorian, 2000, 4, 23},
		{api.Julian, 2000, 4, 17},
		{api.Gregorian, 2001, 4, 15},
		{api.Julian, 2001, 4, 2},
		{api.Gregorian, 2008, 3, 23},
		{api.Julian, 2008, 4, 14},
		{api.Gregorian, 2022, 4, 17},
		{api.Julian, 2022, 4, 11},
		{api.Gregorian, 2024, 3, 31},
		{api.Julian, 2024, 4, 22},
		{api.Gregorian, 1818, 3, 22},
		{api.Gregorian, 1943, 4, 25},
		{api.Julian, 2010, 3, 22},
		{api.Julian, 1983, 4, 25},
		{api.Gregorian, 2027, 3, 28},
		{api.Gregorian, 1997, 3, 30},
		{api.Gregorian, 2018, 4, 1},
		{api.Gregorian, api.FirstGregorian, 4, 10},
		{api.Gregorian, api.FirstGregorian + 1, 4, 1},
		{api.Gregorian, api.MaxYear - 1, 4, 11},
		{api.Gregorian, api.MaxYear, 4, 2},
		{api.Julian, api.MinYear, 3, 27},
		{api.Julian, api.MinYear + 1, 4, 16},
		{api.Julian, 325, 4, 18},
		{api.Julian, api.FirstGregorian - 1, 4, 15},
		{api.Julian, api.FirstGregorian, 3, 31},
		{api.Julian, api.MaxYear - 1, 4, 2},
		{api.Julian, api.MaxYear, 4, 21},
	} {
		if got := packDate(gauss.Date(x.calendar, x.year)); got != on(x.year, x.month, x.day) {
			t.Errorf("Date(%d, %d) = %v, want %d-%d", x.calendar, x.year, got, x.month, x.day)
		}
	}
}

// P11.2: the example of the chapter, the ends of the range, and years with and
// without exceptions.
func TestTraceOfKnownYears(t *testing.T) {
	for _, x := range []struct {
		calendar, year int
		want           traced
	}{
		{api.Gregorian, 1981, steps(24, 5, 29, 6, 1)},
		{api.Gregorian, 1954, steps(24, 5, 28, 6, 2)},
		{api.Gregorian, 1943, steps(24, 5, 29, 5, 0)},
		{api.Gregorian, 1886, steps(23, 4, 28, 6, 0)},
		{api.Gregorian, 1818, steps(23, 4, 0, 0, 0)},
		{api.Gregorian, 2000, steps(24, 5, 29, 3, 0)},
		{api.Gregorian, 2008, steps(24, 5, 1, 0, 0)},
		{api.Gregorian, 2022, steps(24, 5, 26, 0, 0)},
		{api.Gregorian, 2024, steps(24, 5, 4, 5, 0)},
		{api.Gregorian, 2025, steps(24, 5, 23, 6, 0)},
		{api.Gregorian, api.FirstGregorian, steps(22, 2, 16, 3, 0)},
		{api.Gregorian, api.MaxYear - 1, steps(25, 1, 18, 2, 0)},
		{api.Gregorian, api.MaxYear, steps(25, 1, 7, 4, 0)},
		{api.Julian, api.MinYear, steps(15, 6, 4, 1, 0)},
		{api.Julian, 1983, steps(15, 6, 28, 6, 0)},
		{api.Julian, 2000, steps(15, 6, 20, 6, 0)},
		{api.Julian, 2010, steps(15, 6, 0, 0, 0)},
		{api.Julian, 2024, steps(15, 6, 25, 6, 0)},
		{api.Julian, api.MaxYear, steps(15, 6, 27, 3, 0)},
	} {
		if got := packSteps(gauss.Trace(x.calendar, x.year)); got != x.want {
			t.Errorf("Trace(%d, %d) = %v, want %v", x.calendar, x.year, got, x.want)
		}
	}
}

// P11.2: M is 15 and N is 6 in every year of the Julian calendar, which has no
// exceptions and never reaches the latest D.
func TestNumbersOfTheJulianCalendar(t *testing.T) {
	for _, year := range spans(api.Julian) {
		s, errno := gauss.Trace(api.Julian, year)
		if errno != api.OK || s.M != 15 || s.N != 6 || s.Exception != 0 || s.D > 28 {
			t.Errorf("Trace(Julian, %d) = %v, %d", year, s, errno)
		}
	}
}

// P11.2: M and N of known centuries, from their first to their last year.
func TestNumbersOfKnownCenturies(t *testing.T) {
	for _, x := range []struct{ first, last, m, n int }{
		{1583, 1599, 22, 2}, {1600, 1699, 22, 2}, {1700, 1799, 23, 3}, {1800, 1899, 23, 4},
		{1900, 1999, 24, 5}, {2000, 2099, 24, 5}, {2100, 2199, 24, 6}, {2200, 2299, 25, 0},
		{2300, 2399, 26, 1}, {2400, 2499, 25, 1}, {2500, 2599, 26, 2}, {2600, 2699, 27, 3},
		{2700, 2799, 27, 4}, {2800, 2899, 27, 4}, {2900, 2999, 28, 5}, {3000, 3099, 28, 6},
		{3100, 3199, 29, 0}, {3200, 3299, 29, 0}, {3300, 3399, 29, 1}, {3400, 3499, 0, 2},
		{3500, 3599, 1, 3}, {3600, 3699, 0, 3}, {3700, 3799, 1, 4}, {3800, 3899, 2, 5},
	} {
		for year := x.first; year <= x.last; year++ {
			s, errno := gauss.Trace(api.Gregorian, year)
			if errno != api.OK || s.M != x.m || s.N != x.n {
				t.Errorf("Trace(Gregorian, %d) = %v, %d, want M %d and N %d", year, s, errno, x.m, x.n)
			}
		}
	}
}

// P11.2: M and N in the first and the last years of all centuries. N grows by
// one in each century that begins with a common year, and so does M, which
// shrinks by one eight times in 25 centuries.
func TestNumbersOfAllCenturies(t *testing.T) {
	m, n := 22, 2
	for k := 16; 100*k <= api.MaxYear; k++ {
		if k%4 != 0 {
			m, n = m+1, n+1
		}
		if slices.Contains([]int{2, 5, 8, 11, 14, 18, 21, 24}, k%25) {
			m--
		}
		m, n = (m+30)%30, n%7
		years := []int{100 * k, 100*k + 99}
		if years[1] > api.MaxYear {
			years[1] = api.MaxYear
		}
		for _, year := range years {
			if s, errno := gauss.Trace(api.Gregorian, year); errno != api.OK || s.M != m || s.N != n {
				t.Fatalf("Trace(Gregorian, %d) = %v, %d, want M %d and N %d", year, s, errno, m, n)
			}
		}
	}
}

// P11.2: D is the remainder of 19a + M, and E is the number of days from D days
// after 22 March to a Sunday.
func TestDistances(t *testing.T) {
	for _, calendar := range both() {
		var days [30]int
		var weekdays [7]int
		for _, year := range spans(calendar) {
			s, errno := gauss.Trace(calendar, year)
			if errno != api.OK || s.D < 0 || s.D > 29 || (19*(year%19)+s.M-s.D)%30 != 0 {
				t.Fatalf("Trace(%d, %d) = %v, %d", calendar, year, s, errno)
			}
			next := after(calendar, year, s.D)
			w, _ := civil.Weekday(calendar, next.d)
			if want := (7 - w) % 7; s.E != want {
				t.Errorf("Trace(%d, %d) = %v, want E %d", calendar, year, s, want)
			}
			days[s.D]++
			weekdays[s.E]++
		}
		// In the Julian calendar, D depends on the golden number only.
		if calendar == api.Gregorian && slices.Min(days[:]) < 500 || slices.Min(weekdays[:]) < 2000 {
			t.Errorf("the numbers D and E of the calendar %d are this often: %v, %v", calendar, days, weekdays)
		}
	}
}

// P11.1, P11.2: Easter is D + E days after 22 March, or on 19 or 18 April by an
// exception.
func TestDateFollowsFromTheSteps(t *testing.T) {
	for _, calendar := range both() {
		for _, year := range spans(calendar) {
			s, _ := gauss.Trace(calendar, year)
			want := after(calendar, year, s.D+s.E)
			switch s.Exception {
			case 1:
				want = on(year, 4, 19)
			case 2:
				want = on(year, 4, 18)
			}
			if got := packDate(gauss.Date(calendar, year)); got != want {
				t.Errorf("Date(%d, %d) = %v, want %v by %v", calendar, year, got, want, s)
			}
		}
	}
}

// expectedException returns the exception that applies to the steps of a year.
func expectedException(calendar int, s gauss.Steps) int {
	switch {
	case calendar == api.Julian || s.E != 6:
		return 0
	case s.D == 29:
		return 1
	case s.D == 28 && (11*s.M+11)%30 < 19:
		return 2
	}
	return 0
}

// P11.2: the exceptions of many years.
func TestExceptionFollowsFromTheSteps(t *testing.T) {
	for _, calendar := range both() {
		var counts [3]int
		for _, year := range spans(calendar) {
			s, _ := gauss.Trace(calendar, year)
			want := expectedException(calendar, s)
			if s.Exception != want {
				t.Errorf("Trace(%d, %d) = %v, want the exception %d", calendar, year, s, want)
			}
			counts[want]++
		}
		if calendar == api.Gregorian && slices.Min(counts[:]) < 20 {
			t.Errorf("the exceptions apply this often: %v", counts)
		}
	}
}

// latest lists the years to 3000 of a calendar with a kind of latest D.
func latest(calendar int, kind func(s gauss.Steps) bool) []int {
	var l []int
	for year := firstYear(calendar); year <= 3000; year++ {
		if s, _ := gauss.Trace(calendar, year); kind(s) {
			l = append(l, year)
		}
	}
	return l
}

// P11.1, P11.2: all years to 3000 with the latest D, with and without
// exceptions.
func TestExceptionsOfKnownYears(t *testing.T) {
	for _, x := range []struct {
		name       string
		calendar   int
		kind       func(s gauss.Steps) bool
		exception  int
		month, day int
		want       []int
	}{
		{"the first exception", api.Gregorian, func(s gauss.Steps) bool { return s.D == 29 && s.E == 6 }, 1, 4, 19,
			[]int{1609, 1981, 2076, 2133, 2201, 2296, 2448, 2668, 2725, 2820}},
		{"D 29 and Easter on the latest day", api.Gregorian, func(s gauss.Steps) bool { return s.D == 29 && s.E == 5 }, 0, 4, 25,
			[]int{1666, 1943, 2038, 2190, 2258, 2410, 2630, 2782, 2877}},
		{"the second exception", api.Gregorian, func(s gauss.Steps) bool { return s.D == 28 && s.E == 6 && (11*s.M+11)%30 < 19 }, 2, 4, 18,
			[]int{1954, 2049, 2106}},
		{"D 28 without exception", api.Gregorian, func(s gauss.Steps) bool { return s.D == 28 && s.E == 6 && (11*s.M+11)%30 >= 19 }, 0, 4, 25,
			[]int{1734, 1886, 2326, 2573, 2945}},
		{"D 28 of the Julian calendar", api.Julian, func(s gauss.Steps) bool { return s.D == 28 && s.E == 6 }, 0, 4, 25,
			[]int{45, 140, 387, 482, 577, 672, 919, 1014, 1109, 1204, 1451, 1546, 1641, 1736, 1983, 2078, 2173, 2268, 2515, 2610, 2705, 2800}},
		{"D 29 of the Julian calendar", api.Julian, func(s gauss.Steps) bool { return s.D == 29 }, 0, 0, 0, nil},
	} {
		if got := latest(x.calendar, x.kind); !slices.Equal(got, x.want) {
			t.Errorf("%s: %v, want %v", x.name, got, x.want)
		}
		for _, year := range x.want {
			if s, _ := gauss.Trace(x.calendar, year); s.Exception != x.exception {
				t.Errorf("%s: Trace(%d, %d) = %v, want the exception %d", x.name, x.calendar, year, s, x.exception)
			}
			if got := packDate(gauss.Date(x.calendar, year)); got != on(year, x.month, x.day) {
				t.Errorf("%s: Date(%d, %d) = %v, want %d-%d", x.name, x.calendar, year, got, x.month, x.day)
			}
		}
	}
}

// P11.1, P11.2: every D 29 with E other than 6 is without exception.
func TestLatestFullMoonWithoutException(t *testing.T) {
	for _, year := range []int{1590, 1628, 1647, 1666, 1685, 1905, 1924, 1943, 1962, 2000, 2019, 2038, 2057, 2095, 2114, 2152, 2171, 2190} {
		s, _ := gauss.Trace(api.Gregorian, year)
		if s.D != 29 || s.E == 6 || s.Exception != 0 {
			t.Errorf("Trace(Gregorian, %d) = %v, want D 29, E other than 6, and no exception", year, s)
		}
		if got := packDate(gauss.Date(api.Gregorian, year)); got != on(year, 4, 20+s.E) {
			t.Errorf("Date(Gregorian, %d) = %v, want %d April", year, got, 20+s.E)
		}
	}
}

// P11.1, P11.2: years with D 28 and E 6 for each remainder of 11M + 11 that
// occurs with them: the exception applies to those less than 19.
func TestSecondExceptionByRemainder(t *testing.T) {
	for _, x := range []struct{ year, m, remainder int }{
		{3165, 29, 0}, {12647, 10, 1}, {8202, 21, 2}, {3852, 2, 3}, {6399, 13, 4}, {1954, 24, 5}, {11683, 5, 6}, {7086, 16, 7},
		{2945, 28, 19}, {12579, 9, 20}, {7982, 20, 21}, {3537, 1, 22}, {6483, 12, 23}, {1734, 23, 24}, {4224, 4, 25}, {6771, 15, 26}, {2326, 26, 27}, {12055, 7, 28}, {7515, 18, 29},
	} {
		exception, day := 0, 25
		if x.remainder < 19 {
			exception, day = 2, 18
		}
		s, _ := gauss.Trace(api.Gregorian, x.year)
		if s.M != x.m || (11*s.M+11)%30 != x.remainder || s.D != 28 || s.E != 6 || s.Exception != exception {
			t.Errorf("Trace(Gregorian, %d) = %v, want M %d, D 28, E 6 and the exception %d", x.year, s, x.m, exception)
		}
		if got := packDate(gauss.Date(api.Gregorian, x.year)); got != on(x.year, 4, day) {
			t.Errorf("Date(Gregorian, %d) = %v, want %d April", x.year, got, day)
		}
	}
}

// P11.1: all years to 2500 with the earliest and the latest Easter.
func TestEarliestAndLatestEaster(t *testing.T) {
	for _, x := range []struct {
		calendar, month, day int
		want                 []int
	}{
		{api.Gregorian, 3, 22, []int{1598, 1693, 1761, 1818, 2285, 2353, 2437}},
		{api.Gregorian, 4, 25, []int{1666, 1734, 1886, 1943, 2038, 2190, 2258, 2326, 2410}},
		{api.Julian, 3, 22, []int{72, 319, 414, 509, 604, 851, 946, 1041, 1136, 1383, 1478, 1573, 1668, 1915, 2010, 2105, 2200, 2447}},
		{api.Julian, 4, 25, []int{45, 140, 387, 482, 577, 672, 919, 1014, 1109, 1204, 1451, 1546, 1641, 1736, 1983, 2078, 2173, 2268}},
	} {
		var got []int
		for year := firstYear(x.calendar); year <= 2500; year++ {
			if packDate(gauss.Date(x.calendar, year)) == on(year, x.month, x.day) {
				got = append(got, year)
			}
		}
		if !slices.Equal(got, x.want) {
			t.Errorf("Easter is on %d-%d of the calendar %d in %v, want %v", x.month, x.day, x.calendar, got, x.want)
		}
	}
}

// P11.1, P11.2: the ends of the range are accepted, and the years beside them
// are not.
func TestEndsOfTheRange(t *testing.T) {
	for _, calendar := range both() {
		first := firstYear(calendar)
		for year, want := range map[int]api.Errno{
			first - 2: api.ErrRange, first - 1: api.ErrRange, first: api.OK, first + 1: api.OK,
			api.MaxYear - 1: api.OK, api.MaxYear: api.OK, api.MaxYear + 1: api.ErrRange, api.MaxYear + 2: api.ErrRange,
		} {
			if got := packDate(gauss.Date(calendar, year)); got.errno != want || (got.d == api.Date{}) == (want == api.OK) {
				t.Errorf("Date(%d, %d) = %v, want the error %d", calendar, year, got, want)
			}
			if got := packSteps(gauss.Trace(calendar, year)); got.errno != want || (got.s == gauss.Steps{}) == (want == api.OK) {
				t.Errorf("Trace(%d, %d) = %v, want the error %d", calendar, year, got, want)
			}
		}
	}
}

// P11.1, P11.2: the years before the first Gregorian Easter have one in the
// Julian calendar only.
func TestYearsOfTheJulianCalendarOnly(t *testing.T) {
	for year := api.MinYear; year < api.FirstGregorian; year++ {
		if got := packDate(gauss.Date(api.Julian, year)); got.errno != api.OK || got.d.Year != year {
			t.Errorf("Date(Julian, %d) = %v", year, got)
		}
		if got := packSteps(gauss.Trace(api.Julian, year)); got.errno != api.OK || got.s.M != 15 {
			t.Errorf("Trace(Julian, %d) = %v", year, got)
		}
		if got := packDate(gauss.Date(api.Gregorian, year)); got != noDate(api.ErrRange) {
			t.Errorf("Date(Gregorian, %d) = %v, want the zero date and ErrRange", year, got)
		}
		if got := packSteps(gauss.Trace(api.Gregorian, year)); got != noSteps(api.ErrRange) {
			t.Errorf("Trace(Gregorian, %d) = %v, want the zero steps and ErrRange", year, got)
		}
	}
}

// P11.1, P11.2: years out of range.
func TestYearsOutOfRange(t *testing.T) {
	for _, calendar := range both() {
		for _, year := range noYears(calendar) {
			if got := packDate(gauss.Date(calendar, year)); got != noDate(api.ErrRange) {
				t.Errorf("Date(%d, %d) = %v, want the zero date and ErrRange", calendar, year, got)
			}
			if got := packSteps(gauss.Trace(calendar, year)); got != noSteps(api.ErrRange) {
				t.Errorf("Trace(%d, %d) = %v, want the zero steps and ErrRange", calendar, year, got)
			}
		}
	}
}

// P11.1, P11.2: numbers that are not calendars, before ErrRange.
func TestNoSuchCalendar(t *testing.T) {
	years := append(noYears(api.Gregorian), api.FirstGregorian, 1900, 1954, 1981, 2000, 2024, api.MaxYear)
	for _, calendar := range noCalendars() {
		for _, year := range years {
			if got := packDate(gauss.Date(calendar, year)); got != noDate(api.ErrArg) {
				t.Errorf("Date(%d, %d) = %v, want the zero date and ErrArg", calendar, year, got)
			}
			if got := packSteps(gauss.Trace(calendar, year)); got != noSteps(api.ErrArg) {
				t.Errorf("Trace(%d, %d) = %v, want the zero steps and ErrArg", calendar, year, got)
			}
		}
	}
}

// P11.3: the date is that of the tables, in years of the whole range and in
// those that no calendar accepts.
func TestDateIsThatOfTheTables(t *testing.T) {
	for _, calendar := range append(both(), noCalendars()...) {
		years := noYears(calendar)
		if calendar == api.Julian || calendar == api.Gregorian {
			years = append(years, spans(calendar)...)
		}
		for _, year := range years {
			want := packDate(easter.Date(calendar, year))
			if got := packDate(gauss.Date(calendar, year)); got != want {
				t.Errorf("Date(%d, %d) = %v, want %v by the tables", calendar, year, got, want)
			}
		}
	}
}

// P11.3: the date is that of the tables in the first and the last years of
// centuries, where the numbers M and N change or stay.
func TestDateIsThatOfTheTablesAtCenturies(t *testing.T) {
	for _, calendar := range both() {
		for k := 16; k <= 8000; k++ {
			for _, year := range []int{100*k - 1, 100 * k, api.MaxYear - 100*k - 1, api.MaxYear - 100*k} {
				want := packDate(easter.Date(calendar, year))
				if got := packDate(gauss.Date(calendar, year)); got != want {
					t.Errorf("Date(%d, %d) = %v, want %v by the tables", calendar, year, got, want)
				}
			}
		}
	}
}

// P11.3: where an exception applies, the date is that of the tables only because
// of it.
func TestExceptionsAgreeWithTheTables(t *testing.T) {
	var counts [3]int
	for year := api.FirstGregorian; year <= 30_000; year++ {
		s, _ := gauss.Trace(api.Gregorian, year)
		want := packDate(easter.Date(api.Gregorian, year))
		if got := after(api.Gregorian, year, s.D+s.E); (got == want) != (s.Exception == 0) {
			t.Errorf("Trace(Gregorian, %d) = %v, but Easter is %v", year, s, want)
		}
		counts[s.Exception]++
	}
	if slices.Min(counts[:]) < 20 {
		t.Errorf("the exceptions apply this often: %v", counts)
	}
}
