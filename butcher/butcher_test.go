package butcher_test

import (
	"math"
	"slices"
	"testing"

	"computus/api"
	"computus/butcher"
	"computus/easter"
	"computus/gauss"
)

const (
	least = math.MinInt
	most  = math.MaxInt

	// earliest and latest are the numbers of 22 March and of 25 April.
	earliest = 114
	latest   = 148
)

// dated is what Date returns.
type dated struct {
	d     api.Date
	errno api.Errno
}

func packDate(d api.Date, errno api.Errno) dated { return dated{d, errno} }

func noDate(errno api.Errno) dated { return dated{api.Date{}, errno} }

// on returns an Easter on a date.
func on(year, month, day int) dated {
	return dated{api.Date{Year: year, Month: month, Day: day}, api.OK}
}

// numbered is what Number returns.
type numbered struct {
	n     int
	errno api.Errno
}

func packNumber(n int, errno api.Errno) numbered { return numbered{n, errno} }

func noNumber(errno api.Errno) numbered { return numbered{0, errno} }

// number returns the number of a year that has an Easter.
func number(n int) numbered { return numbered{n, api.OK} }

// numberOf returns the number that belongs to a date of the other methods, or
// its error.
func numberOf(x dated) numbered {
	if x.errno != api.OK {
		return noNumber(x.errno)
	}
	return number(31*x.d.Month + x.d.Day - 1)
}

// both lists the calendars.
func both() []int { return []int{api.Julian, api.Gregorian} }

// firstYear returns the first year of a calendar that has an Easter.
func firstYear(calendar int) int {
	if calendar == api.Julian {
		return api.MinYear
	}
	return api.FirstGregorian
}

// noCalendars lists numbers that are not calendars.
func noCalendars() []int {
	return []int{0, 3, 4, 5, -1, -2, -3, 1 << 32, 1<<32 + 1, 1<<32 + 2, -1 << 32, -1<<32 + 1, -1<<32 + 2, least, least + 1, least + 2, most, most - 1}
}

// noYears lists years that are not accepted in a calendar.
func noYears(calendar int) []int {
	l := []int{0, -1, -2, -4, -19, -100, -400, -1583, -2000, -api.MaxYear, api.MaxYear + 1, api.MaxYear + 2, api.MaxYear + 19, api.MaxYear + 400, 2 * api.MaxYear, 1 << 32, 1<<32 + 2000, -1 << 32, -1<<32 + 2000, 1 << 62, -1 << 62, least, least + 1, least + 2000, most, most - 1}
	if calendar == api.Gregorian {
		for year := api.MinYear; year < api.FirstGregorian; year++ {
			l = append(l, year)
		}
	}
	return l
}

// spans lists years of a calendar from the whole range: all of the first and the
// last ones, and many in between.
func spans(calendar int) []int {
	first := firstYear(calendar)
	var l []int
	for i := range 6000 {
		l = append(l, first+i, api.MaxYear-i)
	}
	for year := first; year <= api.MaxYear; year += 49_999 {
		l = append(l, year)
	}
	return l
}

// checkDate fails the test unless Easter of a year is as wanted, by its date and
// by its number.
func checkDate(t *testing.T, calendar, year int, want dated) {
	t.Helper()
	if got := packDate(butcher.Date(calendar, year)); got != want {
		t.Errorf("Date(%d, %d) = %v, want %v", calendar, year, got, want)
	}
	if got := packNumber(butcher.Number(calendar, year)); got != numberOf(want) {
		t.Errorf("Number(%d, %d) = %v, want %v", calendar, year, got, numberOf(want))
	}
}

// P12.1, P12.2: the examples of the chapter and of the document, and the ends of
// the range.
func TestKnownYears(t *testing.T) {
	for _, x := range []struct {
		calendar, year, month, day, n int
	}{
		{api.Gregorian, 1961, 4, 2, 125},
		{api.Gregorian, 1954, 4, 18, 141},
		{api.Gregorian, 1981, 4, 19, 142},
		{api.Gregorian, 2000, 4, 23, 146},
		{api.Julian, 2000, 4, 17, 140},
		{api.Gregorian, 2001, 4, 15, 138},
		{api.Julian, 2001, 4, 2, 125},
		{api.Gregorian, 2008, 3, 23, 115},
		{api.Julian, 2008, 4, 14, 137},
		{api.Gregorian, 2022, 4, 17, 140},
		{api.Julian, 2022, 4, 11, 134},
		{api.Gregorian, 2024, 3, 31, 123},
		{api.Julian, 2024, 4, 22, 145},
		{api.Gregorian, 2018, 4, 1, 124},
		{api.Gregorian, 1997, 3, 30, 122},
		{api.Gregorian, 2027, 3, 28, 120},
		{api.Gregorian, 1818, 3, 22, 114},
		{api.Gregorian, 1943, 4, 25, 148},
		{api.Julian, 2010, 3, 22, 114},
		{api.Julian, 1983, 4, 25, 148},
		{api.Gregorian, api.FirstGregorian, 4, 10, 133},
		{api.Gregorian, api.FirstGregorian + 1, 4, 1, 124},
		{api.Gregorian, api.MaxYear - 1, 4, 11, 134},
		{api.Gregorian, api.MaxYear, 4, 2, 125},
		{api.Julian, api.MinYear, 3, 27, 119},
		{api.Julian, api.MinYear + 1, 4, 16, 139},
		{api.Julian, 325, 4, 18, 141},
		{api.Julian, api.FirstGregorian - 1, 4, 15, 138},
		{api.Julian, api.FirstGregorian, 3, 31, 123},
		{api.Julian, api.MaxYear - 1, 4, 2, 125},
		{api.Julian, api.MaxYear, 4, 21, 144},
	} {
		if got := packDate(butcher.Date(x.calendar, x.year)); got != on(x.year, x.month, x.day) {
			t.Errorf("Date(%d, %d) = %v, want %d-%d", x.calendar, x.year, got, x.month, x.day)
		}
		if got := packNumber(butcher.Number(x.calendar, x.year)); got != number(x.n) {
			t.Errorf("Number(%d, %d) = %v, want %d", x.calendar, x.year, got, x.n)
		}
	}
}

// P12.1, P12.2: all years of several centuries with Easter on the earliest and
// the latest day, and on both sides of the end of March.
func TestYearsOfKnownDays(t *testing.T) {
	for _, x := range []struct {
		calendar, last, month, day, n int
		want                          []int
	}{
		{api.Gregorian, 2500, 3, 22, earliest, []int{1598, 1693, 1761, 1818, 2285, 2353, 2437}},
		{api.Gregorian, 2500, 4, 25, latest, []int{1666, 1734, 1886, 1943, 2038, 2190, 2258, 2326, 2410}},
		{api.Julian, 2500, 3, 22, earliest, []int{72, 319, 414, 509, 604, 851, 946, 1041, 1136, 1383, 1478, 1573, 1668, 1915, 2010, 2105, 2200, 2447}},
		{api.Julian, 2500, 4, 25, latest, []int{45, 140, 387, 482, 577, 672, 919, 1014, 1109, 1204, 1451, 1546, 1641, 1736, 1983, 2078, 2173, 2268}},
		{api.Gregorian, 2183, 3, 31, 123, []int{1619, 1630, 1641, 1652, 1709, 1720, 1771, 1782, 1793, 1839, 1850, 1861, 1872, 1907, 1918, 1929, 1991, 2002, 2013, 2024, 2086, 2097, 2143, 2154, 2165, 2176}},
		{api.Gregorian, 2183, 4, 1, 124, []int{1584, 1646, 1657, 1668, 1714, 1725, 1736, 1804, 1866, 1877, 1888, 1923, 1934, 1945, 1956, 2018, 2029, 2040, 2108, 2170, 2181}},
		{api.Julian, 601, 3, 31, 123, []int{9, 20, 82, 93, 104, 177, 183, 188, 267, 272, 278, 351, 362, 373, 435, 446, 457, 468, 519, 530, 541, 552}},
		{api.Julian, 601, 4, 1, 124, []int{25, 36, 115, 120, 199, 210, 283, 294, 305, 367, 378, 389, 400, 462, 473, 484, 557, 568}},
	} {
		var dates, numbers []int
		for year := firstYear(x.calendar); year <= x.last; year++ {
			if packDate(butcher.Date(x.calendar, year)) == on(year, x.month, x.day) {
				dates = append(dates, year)
			}
			if packNumber(butcher.Number(x.calendar, year)) == number(x.n) {
				numbers = append(numbers, year)
			}
		}
		if !slices.Equal(dates, x.want) {
			t.Errorf("Easter is on %d-%d of the calendar %d in %v, want %v", x.month, x.day, x.calendar, dates, x.want)
		}
		if !slices.Equal(numbers, x.want) {
			t.Errorf("%d is the number of the calendar %d in %v, want %v", x.n, x.calendar, numbers, x.want)
		}
	}
}

// P12.2: every number from that of 22 March to that of 25 April occurs in both
// calendars, and no other one.
func TestNumbersThatOccur(t *testing.T) {
	for _, calendar := range both() {
		var counts [latest - earliest + 1]int
		for _, year := range spans(calendar) {
			n, errno := butcher.Number(calendar, year)
			if errno != api.OK || n < earliest || n > latest {
				t.Fatalf("Number(%d, %d) = %d, %d", calendar, year, n, errno)
			}
			counts[n-earliest]++
		}
		if slices.Min(counts[:]) < 50 {
			t.Errorf("the numbers of the calendar %d occur this often: %v", calendar, counts)
		}
	}
}

// P12.1, P12.2: the month and the day are the quotient and one more than the
// remainder of the number.
func TestDateFollowsFromTheNumber(t *testing.T) {
	for _, calendar := range both() {
		for _, year := range spans(calendar) {
			n, errno := butcher.Number(calendar, year)
			want := on(year, n/31, n%31+1)
			if got := packDate(butcher.Date(calendar, year)); errno != api.OK || got != want {
				t.Errorf("Date(%d, %d) = %v, want %v by the number %d, %d", calendar, year, got, want, n, errno)
			}
		}
	}
}

// weeks returns the number m of a year in the Gregorian form. The numbers h and
// l are the D and E of Gauss.
func weeks(year int, s gauss.Steps) int {
	return (year%19 + 11*s.D + 22*s.E) / 451
}

// P12.2: the number is that of the days from 22 March to a Sunday, less a week
// if m is 1.
func TestNumberFollowsFromTheDistances(t *testing.T) {
	for _, calendar := range both() {
		var counts [2]int
		for _, year := range spans(calendar) {
			s, _ := gauss.Trace(calendar, year)
			m := 0
			if calendar == api.Gregorian {
				m = weeks(year, s)
			}
			want := number(s.D + s.E - 7*m + earliest)
			if got := packNumber(butcher.Number(calendar, year)); got != want {
				t.Errorf("Number(%d, %d) = %v, want %v", calendar, year, got, want)
			}
			counts[m]++
		}
		if calendar == api.Gregorian && counts[1] < 50 {
			t.Errorf("m is 0 and 1 this often: %v", counts)
		}
	}
}

// P12.1, P12.2: years in which Easter would be on 25 or 26 April if m were 0,
// for each golden number, and years in which it is on 25 April.
func TestLatestMoons(t *testing.T) {
	for _, x := range []struct {
		d, e  int
		years [19]int
		// first is the first remainder modulo 19 with which m is 1.
		first int
	}{
		{28, 6, [19]int{2945, 12579, 7982, 3537, 6483, 1734, 4224, 6771, 2326, 12055, 7515, 3165, 12647, 8202, 3852, 6399, 1954, 11683, 7086}, 11},
		{29, 6, [19]int{3192, 5739, 8229, 3936, 6331, 1981, 11615, 7018, 2668, 5367, 7857, 3412, 5959, 1609, 11091, 6646, 2201, 4843, 7333}, 0},
		{29, 5, [19]int{3154, 12883, 8286, 3841, 13475, 1943, 4528, 7075, 2630, 5120, 7819, 3469, 12951, 1666, 4156, 6855, 2258, 4748, 7390}, 19},
	} {
		for a, year := range x.years {
			day := x.d + x.e - 9
			if a >= x.first {
				day -= 7
			}
			if s, _ := gauss.Trace(api.Gregorian, year); year%19 != a || s.D != x.d || s.E != x.e {
				t.Fatalf("%d is not a year with a %d, h %d and l %d", year, a, x.d, x.e)
			}
			checkDate(t, api.Gregorian, year, on(year, 4, day))
		}
	}
}

// P12.1, P12.2: all years to 3000 in which m is 1.
func TestYearsWithACorrection(t *testing.T) {
	var got []int
	for year := api.FirstGregorian; year <= 3000; year++ {
		s, _ := gauss.Trace(api.Gregorian, year)
		if n, _ := butcher.Number(api.Gregorian, year); n != s.D+s.E+earliest {
			got = append(got, year)
		}
	}
	want := []int{1609, 1954, 1981, 2049, 2076, 2106, 2133, 2201, 2296, 2448, 2668, 2725, 2820}
	if !slices.Equal(got, want) {
		t.Errorf("m is 1 in %v, want %v", got, want)
	}
	for _, year := range want {
		day := 19
		if slices.Contains([]int{1954, 2049, 2106}, year) {
			day = 18
		}
		checkDate(t, api.Gregorian, year, on(year, 4, day))
	}
}

// P12.1, P12.2: the ends of the range are accepted, and the years beside them
// are not.
func TestEndsOfTheRange(t *testing.T) {
	for _, calendar := range both() {
		first := firstYear(calendar)
		for year, want := range map[int]api.Errno{
			first - 2: api.ErrRange, first - 1: api.ErrRange, first: api.OK, first + 1: api.OK,
			api.MaxYear - 1: api.OK, api.MaxYear: api.OK, api.MaxYear + 1: api.ErrRange, api.MaxYear + 2: api.ErrRange,
		} {
			if got := packDate(butcher.Date(calendar, year)); got.errno != want || (got.d == api.Date{}) == (want == api.OK) {
				t.Errorf("Date(%d, %d) = %v, want the error %d", calendar, year, got, want)
			}
			if got := packNumber(butcher.Number(calendar, year)); got.errno != want || (got.n == 0) == (want == api.OK) {
				t.Errorf("Number(%d, %d) = %v, want the error %d", calendar, year, got, want)
			}
		}
	}
}

// P12.1, P12.2: the years before the first Gregorian Easter have one in the
// Julian calendar only.
func TestYearsOfTheJulianCalendarOnly(t *testing.T) {
	for year := api.MinYear; year < api.FirstGregorian; year++ {
		if got := packDate(butcher.Date(api.Julian, year)); got.errno != api.OK || got.d.Year != year {
			t.Errorf("Date(Julian, %d) = %v", year, got)
		}
		if got := packNumber(butcher.Number(api.Julian, year)); got.errno != api.OK || got.n < earliest || got.n > latest {
			t.Errorf("Number(Julian, %d) = %v", year, got)
		}
		checkDate(t, api.Gregorian, year, noDate(api.ErrRange))
	}
}

// P12.1, P12.2: years out of range, with the zero date and the number 0.
func TestYearsOutOfRange(t *testing.T) {
	for _, calendar := range both() {
		for _, year := range noYears(calendar) {
			checkDate(t, calendar, year, noDate(api.ErrRange))
		}
	}
}

// P12.1, P12.2: numbers that are not calendars, before ErrRange.
func TestNoSuchCalendar(t *testing.T) {
	years := append(noYears(api.Gregorian), api.FirstGregorian, 1900, 1954, 1961, 1981, 2000, 2024, api.MaxYear)
	for _, calendar := range noCalendars() {
		for _, year := range years {
			checkDate(t, calendar, year, noDate(api.ErrArg))
		}
	}
}

// checkAgreement fails the test unless Easter of a year is that of the other
// methods.
func checkAgreement(t *testing.T, calendar, year int) {
	t.Helper()
	checkDate(t, calendar, year, packDate(easter.Date(calendar, year)))
	checkDate(t, calendar, year, packDate(gauss.Date(calendar, year)))
}

// P12.3: the date is that of the tables and of Gauss, in years of the whole
// range and in those that no calendar accepts.
func TestAgreementWithTheOtherMethods(t *testing.T) {
	for _, calendar := range append(both(), noCalendars()...) {
		years := noYears(calendar)
		if calendar == api.Julian || calendar == api.Gregorian {
			years = append(years, spans(calendar)...)
		}
		for _, year := range years {
			checkAgreement(t, calendar, year)
		}
	}
}

// P12.3: the date is that of the tables and of Gauss in the last and the first
// years of centuries, and so of four centuries, where the moons are corrected.
func TestAgreementAtCenturies(t *testing.T) {
	for _, calendar := range both() {
		for k := 16; k <= 8000; k++ {
			for _, year := range []int{100*k - 1, 100 * k, 100*k + 1, api.MaxYear - 100*k - 1, api.MaxYear - 100*k, api.MaxYear - 100*k + 1} {
				checkAgreement(t, calendar, year)
			}
		}
	}
}

// P12.3: the date is that of Gauss in the last and the first years of all
// centuries.
func TestAgreementAtAllCenturies(t *testing.T) {
	for k := 16; 100*k <= api.MaxYear; k++ {
		for _, year := range []int{100*k - 1, 100 * k} {
			want := packDate(gauss.Date(api.Gregorian, year))
			if got := packDate(butcher.Date(api.Gregorian, year)); got != want {
				t.Fatalf("Date(Gregorian, %d) = %v, want %v by the method of Gauss", year, got, want)
			}
		}
	}
}
