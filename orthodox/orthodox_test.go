package orthodox_test

import (
	"math"
	"slices"
	"testing"

	"computus/api"
	"computus/butcher"
	"computus/civil"
	"computus/easter"
	"computus/gauss"
	"computus/orthodox"
)

const (
	least = math.MinInt
	most  = math.MaxInt

	// lastDated is the last year whose Orthodox Easter has a Gregorian date, and
	// lastDay the day number of the last Gregorian date.
	lastDated = 999_979_466
	lastDay   = 365_242_500_000
)

// dated is what Date returns.
type dated struct {
	d     api.Date
	errno api.Errno
}

func packDate(d api.Date, errno api.Errno) dated { return dated{d, errno} }

func noDate(errno api.Errno) dated { return dated{api.Date{}, errno} }

// on returns an Orthodox Easter on a date.
func on(year, month, day int) dated { return dated{date(year, month, day), api.OK} }

// number is what Gap and Delay return.
type number struct {
	n     int
	errno api.Errno
}

func pack(n int, errno api.Errno) number { return number{n, errno} }

func none(errno api.Errno) number { return number{0, errno} }

func some(n int) number { return number{n, api.OK} }

func date(year, month, day int) api.Date { return api.Date{Year: year, Month: month, Day: day} }

// noYears lists years outside of the range.
func noYears() []int {
	return []int{0, -1, -2, -4, -19, -100, -400, -1583, -2000, -2024, -api.MaxYear, api.MaxYear + 1, api.MaxYear + 2, api.MaxYear + 19, api.MaxYear + 400, 2 * api.MaxYear, 1 << 32, 1<<32 + 2000, -1 << 32, -1<<32 + 2000, 1 << 62, -1 << 62, least, least + 1, least + 2000, most, most - 1}
}

// spans lists years from the whole range: all of the first and the last ones,
// the ones around the last year with a Gregorian date, and many in between.
func spans() []int {
	var l []int
	for i := range 3000 {
		l = append(l, api.MinYear+i, api.MaxYear-i, lastDated-1500+i)
	}
	for year := api.MinYear; year <= api.MaxYear; year += 99_991 {
		l = append(l, year)
	}
	return l
}

// gapYears lists the years of spans that have a Western Easter.
func gapYears() []int {
	return slices.DeleteFunc(spans(), func(year int) bool { return year < api.FirstGregorian })
}

// julianEaster returns the day number of Easter of a year in the Julian
// calendar, and gregorianEaster that in the Gregorian calendar, by closed forms.
func julianEaster(year int) int    { return closedForm(api.Julian, year) }
func gregorianEaster(year int) int { return closedForm(api.Gregorian, year) }

func closedForm(calendar, year int) int {
	d, _ := butcher.Date(calendar, year)
	n, _ := civil.ToDay(calendar, d)
	return n
}

// P13.1: the examples of the chapter and of the document, the ends of the range,
// and the years around the first Western Easter.
func TestDateOfKnownYears(t *testing.T) {
	for _, x := range []struct {
		year int
		want dated
	}{
		{2024, on(2024, 5, 5)},
		{api.MinYear, on(1, 3, 25)},
		{api.MinYear + 1, on(2, 4, 14)},
		{3, on(3, 4, 6)},
		{4, on(4, 3, 21)},
		{5, on(5, 4, 10)},
		{99, on(99, 3, 22)},
		{100, on(100, 4, 11)},
		{101, on(101, 4, 3)},
		{199, on(199, 3, 31)},
		{200, on(200, 4, 20)},
		{201, on(201, 4, 5)},
		{299, on(299, 4, 2)},
		{300, on(300, 3, 25)},
		{301, on(301, 4, 14)},
		{325, on(325, 4, 19)},
		{400, on(400, 4, 2)},
		{1000, on(1000, 4, 6)},
		{api.FirstGregorian - 2, on(1581, 4, 5)},
		{api.FirstGregorian - 1, on(1582, 4, 25)},
		{api.FirstGregorian, on(1583, 4, 10)},
		{api.FirstGregorian + 1, on(1584, 4, 29)},
		{1641, on(1641, 5, 5)},
		{1668, on(1668, 4, 1)},
		{1699, on(1699, 4, 19)},
		{1700, on(1700, 4, 11)},
		{1701, on(1701, 5, 1)},
		{1800, on(1800, 4, 20)},
		{1900, on(1900, 4, 22)},
		{1915, on(1915, 4, 4)},
		{1983, on(1983, 5, 8)},
		{2010, on(2010, 4, 4)},
		{2078, on(2078, 5, 8)},
		{2100, on(2100, 5, 2)},
		{2173, on(2173, 5, 9)},
		{4000, on(4000, 5, 14)},
		{10_000, on(10_000, 6, 18)},
		{lastDated + 1, noDate(api.ErrRange)},
		{api.MaxYear, noDate(api.ErrRange)},
		{api.MaxYear + 1, noDate(api.ErrRange)},
		{api.MinYear - 1, noDate(api.ErrRange)},
	} {
		if got := packDate(orthodox.Date(x.year)); got != x.want {
			t.Errorf("Date(%d) = %v, want %v", x.year, got, x.want)
		}
	}
}

// P13.1, P13.2: the dates and gaps of 41 years in a row.
func TestYearsFrom1990To2030(t *testing.T) {
	for i, x := range [][3]int{
		{4, 15, 0}, {4, 7, 7}, {4, 26, 7}, {4, 18, 7}, {5, 1, 28}, {4, 23, 7}, {4, 14, 7}, {4, 27, 28}, {4, 19, 7}, {4, 11, 7},
		{4, 30, 7}, {4, 15, 0}, {5, 5, 35}, {4, 27, 7}, {4, 11, 0}, {5, 1, 35}, {4, 23, 7}, {4, 8, 0}, {4, 27, 35}, {4, 19, 7},
		{4, 4, 0}, {4, 24, 0}, {4, 15, 7}, {5, 5, 35}, {4, 20, 0}, {4, 12, 7}, {5, 1, 35}, {4, 16, 0}, {4, 8, 7}, {4, 28, 7},
		{4, 19, 7}, {5, 2, 28}, {4, 24, 7}, {4, 16, 7}, {5, 5, 35}, {4, 20, 0}, {4, 12, 7}, {5, 2, 35}, {4, 16, 0}, {4, 8, 7},
		{4, 28, 7},
	} {
		year := 1990 + i
		if got := packDate(orthodox.Date(year)); got != on(year, x[0], x[1]) {
			t.Errorf("Date(%d) = %v, want %d-%d", year, got, x[0], x[1])
		}
		if got := pack(orthodox.Gap(year)); got != some(x[2]) {
			t.Errorf("Gap(%d) = %v, want %d", year, got, x[2])
		}
	}
}

// P13.1: the Gregorian date of late years is in a later year, on any day of it.
func TestDatesOfLaterYears(t *testing.T) {
	for _, x := range []struct {
		year int
		want dated
	}{
		{33_561, on(33_561, 12, 31)},
		{33_807, on(33_807, 12, 13)},
		{33_808, on(33_809, 1, 1)},
		{38_186, on(38_186, 12, 31)},
		{41_446, on(41_447, 2, 28)},
		{41_541, on(41_542, 3, 1)},
		{42_459, on(42_460, 2, 29)},
		{42_679, on(42_680, 2, 29)},
		{100_000, on(100_002, 4, 21)},
		{1_000_000, on(1_000_020, 10, 18)},
		{10_000_000, on(10_000_205, 7, 28)},
		{100_000_000, on(100_002_053, 9, 7)},
	} {
		if got := packDate(orthodox.Date(x.year)); got != x.want {
			t.Errorf("Date(%d) = %v, want %v", x.year, got, x.want)
		}
	}
}

// P13.1, P13.2: the last years have no Gregorian date of Orthodox Easter, but a
// gap.
func TestYearsWithoutAGregorianDate(t *testing.T) {
	for year, want := range map[int]dated{
		lastDated - 2: on(api.MaxYear-2, 3, 1), lastDated - 1: on(api.MaxYear-1, 2, 21), lastDated: on(api.MaxYear, 2, 6),
	} {
		if got := packDate(orthodox.Date(year)); got != want {
			t.Errorf("Date(%d) = %v, want %v", year, got, want)
		}
	}
	for year := lastDated + 1; year <= api.MaxYear; year++ {
		n := julianEaster(year)
		if n <= lastDay {
			t.Fatalf("the day of Orthodox Easter of %d is %d, which has a Gregorian date", year, n)
		}
		if got := packDate(orthodox.Date(year)); got != noDate(api.ErrRange) {
			t.Errorf("Date(%d) = %v, want the zero date and ErrRange", year, got)
		}
		want := n - gregorianEaster(year)
		if got := pack(orthodox.Gap(year)); got != some(want) {
			t.Errorf("Gap(%d) = %v, want %d", year, got, want)
		}
	}
}

// P13.1, P13.2: the ends of the ranges are accepted, and the years beside them
// are not. A year before the first Western Easter has a date, but no gap.
func TestEndsOfTheRanges(t *testing.T) {
	for _, x := range []struct {
		year      int
		date, gap api.Errno
	}{
		{api.MinYear - 2, api.ErrRange, api.ErrRange},
		{api.MinYear - 1, api.ErrRange, api.ErrRange},
		{api.MinYear, api.OK, api.ErrRange},
		{api.MinYear + 1, api.OK, api.ErrRange},
		{api.FirstGregorian - 2, api.OK, api.ErrRange},
		{api.FirstGregorian - 1, api.OK, api.ErrRange},
		{api.FirstGregorian, api.OK, api.OK},
		{api.FirstGregorian + 1, api.OK, api.OK},
		{lastDated - 1, api.OK, api.OK},
		{lastDated, api.OK, api.OK},
		{lastDated + 1, api.ErrRange, api.OK},
		{lastDated + 2, api.ErrRange, api.OK},
		{api.MaxYear - 1, api.ErrRange, api.OK},
		{api.MaxYear, api.ErrRange, api.OK},
		{api.MaxYear + 1, api.ErrRange, api.ErrRange},
		{api.MaxYear + 2, api.ErrRange, api.ErrRange},
	} {
		if got := packDate(orthodox.Date(x.year)); got.errno != x.date || (got.d == api.Date{}) == (x.date == api.OK) {
			t.Errorf("Date(%d) = %v, want the error %d", x.year, got, x.date)
		}
		if got := pack(orthodox.Gap(x.year)); got.errno != x.gap || x.gap != api.OK && got.n != 0 {
			t.Errorf("Gap(%d) = %v, want the error %d", x.year, got, x.gap)
		}
	}
}

// P13.1, P13.2: all years before the first Western Easter have a date in the
// same year, but no gap.
func TestYearsBeforeWesternEaster(t *testing.T) {
	for year := api.MinYear; year < api.FirstGregorian; year++ {
		if got := packDate(orthodox.Date(year)); got.errno != api.OK || got.d.Year != year {
			t.Errorf("Date(%d) = %v", year, got)
		}
		if got := pack(orthodox.Gap(year)); got != none(api.ErrRange) {
			t.Errorf("Gap(%d) = %v, want 0 and ErrRange", year, got)
		}
	}
}

// P13.1, P13.2: years out of range.
func TestYearsOutOfRange(t *testing.T) {
	for _, year := range noYears() {
		if got := packDate(orthodox.Date(year)); got != noDate(api.ErrRange) {
			t.Errorf("Date(%d) = %v, want the zero date and ErrRange", year, got)
		}
		if got := pack(orthodox.Gap(year)); got != none(api.ErrRange) {
			t.Errorf("Gap(%d) = %v, want 0 and ErrRange", year, got)
		}
	}
}

// P13.1: the Gregorian date is the same day as Easter of the Julian calendar, by
// each method, and a Sunday.
func TestDateIsTheDayOfJulianEaster(t *testing.T) {
	for _, year := range spans() {
		if year > lastDated {
			continue
		}
		d, errno := orthodox.Date(year)
		if w, _ := civil.Weekday(api.Gregorian, d); errno != api.OK || w != api.Sunday {
			t.Errorf("Date(%d) = %v, %d is the day %d of the week", year, d, errno, w)
		}
		got := packDate(civil.Convert(d, api.Gregorian, api.Julian))
		for _, method := range []func(calendar, year int) (api.Date, api.Errno){easter.Date, gauss.Date, butcher.Date} {
			if want := packDate(method(api.Julian, year)); got != want {
				t.Errorf("Date(%d) = %v is the Julian date %v, want %v", year, d, got, want)
			}
		}
	}
}

// P13.1: the Gregorian date is later by the delay of the Julian one.
func TestDateFollowsFromTheDelay(t *testing.T) {
	for _, year := range spans() {
		if year > lastDated {
			continue
		}
		d, _ := easter.Date(api.Julian, year)
		delay, errno := orthodox.Delay(d)
		want := packDate(civil.Shift(api.Gregorian, d, delay))
		if got := packDate(orthodox.Date(year)); errno != api.OK || got != want {
			t.Errorf("Date(%d) = %v, want %v, which is %d days after %v", year, got, want, delay, d)
		}
	}
}

// P13.2: gaps of known years: the first and the last ones of some gaps, and
// years in which the calendars are far apart.
func TestGapOfKnownYears(t *testing.T) {
	for year, want := range map[int]int{
		api.FirstGregorian: 0, api.FirstGregorian + 1: 28, 1585: 0, 1586: 7, 1595: 35, 1699: 0, 1700: 0, 1701: 35,
		1800: 7, 1900: 7, 1961: 7, 1981: 7, 2000: 7, 2008: 35, 2022: 7, 2024: 35, 2025: 0, 2092: 28, 2100: 35, 2101: 7,
		2436: 7, 2437: 42, 2698: 0, 2725: 14, 4294: 35, 4609: 49, 4860: 7, 4995: 21, 6808: 56, 7341: 77, 8601: 63, 9999: 91,
		10_000: 63, 100_000: 735, 1_000_000: 7490, 10_000_000: 74_991, 100_000_000: 749_994,
		lastDated: 7_499_828, lastDated + 1: 7_499_863, api.MaxYear - 400: 7_499_989, api.MaxYear - 1: 7_499_989, api.MaxYear: 7_500_017,
	} {
		if got := pack(orthodox.Gap(year)); got != some(want) {
			t.Errorf("Gap(%d) = %v, want %d", year, got, want)
		}
	}
}

// P13.2: all years of two centuries by their gaps.
func TestYearsOfKnownGaps(t *testing.T) {
	got := map[int][]int{}
	for year := 1900; year <= 2100; year++ {
		gap, errno := orthodox.Gap(year)
		if errno != api.OK {
			t.Errorf("Gap(%d) has the error %d", year, errno)
		}
		got[gap] = append(got[gap], year)
	}
	for gap, want := range map[int][]int{
		0: {
			1906, 1909, 1912, 1915, 1916, 1919, 1922, 1930, 1933, 1936, 1939, 1942, 1943, 1946, 1950, 1953, 1957, 1960, 1963, 1966,
			1974, 1977, 1980, 1984, 1987, 1990, 2001, 2004, 2007, 2010, 2011, 2014, 2017, 2025, 2028, 2031, 2034, 2037, 2038, 2041,
			2045, 2048, 2052, 2055, 2058, 2061, 2069, 2071, 2072, 2075, 2079, 2082, 2085, 2091, 2095, 2096, 2099,
		},
		28: {1902, 1926, 1970, 1994, 1997, 2021, 2065, 2089, 2092},
		35: {
			1907, 1910, 1913, 1918, 1921, 1929, 1932, 1937, 1940, 1945, 1948, 1951, 1956, 1959, 1964, 1967, 1975, 1978, 1983, 1986,
			1989, 2002, 2005, 2008, 2013, 2016, 2024, 2027, 2032, 2035, 2040, 2043, 2046, 2051, 2054, 2059, 2062, 2070, 2073, 2078,
			2081, 2084, 2097, 2100,
		},
	} {
		if !slices.Equal(got[gap], want) {
			t.Errorf("the gap is %d in %v, want %v", gap, got[gap], want)
		}
	}
	if len(got) != 4 || len(got[7]) != 91 {
		t.Errorf("the gaps of the years are %v", got)
	}
}

// P13.2: the gap is the number of days between the dates, as both are Gregorian
// ones.
func TestGapIsBetweenTheDates(t *testing.T) {
	for _, year := range gapYears() {
		gap, errno := orthodox.Gap(year)
		western, _ := easter.Date(api.Gregorian, year)
		want := packDate(civil.Shift(api.Gregorian, western, gap))
		if got := packDate(orthodox.Date(year)); errno != api.OK || got != want {
			t.Errorf("Gap(%d) = %d, %d, but Western Easter is on %v and Orthodox Easter on %v", year, gap, errno, western, got)
		}
	}
}

// P13.2: the gap is the distance of the days that the other methods find.
func TestGapIsThatOfTheOtherMethods(t *testing.T) {
	for _, year := range gapYears() {
		want := some(julianEaster(year) - gregorianEaster(year))
		if got := pack(orthodox.Gap(year)); got != want {
			t.Errorf("Gap(%d) = %v, want %v", year, got, want)
		}
	}
}

// P13.4: the gap is a multiple of 7 over the whole range; it grows with the
// delay, from which it differs by less than 40 days.
func TestGapIsAMultipleOf7(t *testing.T) {
	for _, year := range gapYears() {
		gap, errno := orthodox.Gap(year)
		if errno != api.OK || gap%7 != 0 {
			t.Errorf("Gap(%d) = %d, %d", year, gap, errno)
		}
		delay, _ := orthodox.Delay(date(year, 4, 1))
		if gap < 0 || gap < delay-40 || gap > delay+40 {
			t.Errorf("Gap(%d) = %d is far from the delay %d", year, gap, delay)
		}
	}
}

// P13.4: which multiples of 7 occur in the first centuries.
func TestGapsThatOccur(t *testing.T) {
	counts := map[int]int{}
	for year := api.FirstGregorian; year < 10_000; year++ {
		gap, _ := orthodox.Gap(year)
		counts[gap]++
	}
	want := map[int]int{0: 271, 7: 1155, 14: 640, 21: 111, 28: 27, 35: 583, 42: 1333, 49: 1926, 56: 1538, 63: 217, 77: 16, 84: 343, 91: 257}
	for gap := range 100 {
		if counts[gap] != want[gap] {
			t.Errorf("the gap is %d in %d years, want %d", gap, counts[gap], want[gap])
		}
	}
}

// P13.3: delays of known dates: the example of the chapter, the first and the
// last day of both calendars, and the days around the end of February of century
// years that are a leap year in one calendar and in both.
func TestDelayOfKnownDates(t *testing.T) {
	for _, x := range []struct {
		d    api.Date
		want int
	}{
		{date(2000, 1, 1), 13},
		{date(2024, 4, 22), 13},
		{date(1582, 10, 4), 10}, {date(1582, 10, 5), 10}, {date(1582, 10, 15), 10}, {date(1583, 1, 1), 10},
		{date(api.MinYear, 1, 1), -2}, {date(api.MinYear, 1, 2), -2}, {date(api.MinYear, 1, 3), -2}, {date(api.MinYear, 12, 31), -2},
		{date(api.MaxYear, 1, 1), 7_499_998}, {date(api.MaxYear, 12, 30), 7_499_998}, {date(api.MaxYear, 12, 31), 7_499_998},
		{date(4, 2, 28), -2}, {date(4, 2, 29), -2}, {date(4, 3, 1), -2}, {date(99, 12, 31), -2},
		{date(100, 2, 28), -2}, {date(100, 3, 1), -1},
		{date(200, 2, 28), -1}, {date(200, 3, 1), 0}, {date(200, 12, 31), 0}, {date(201, 1, 1), 0},
		{date(300, 2, 28), 0}, {date(300, 3, 1), 1},
		{date(400, 2, 28), 1}, {date(400, 2, 29), 1}, {date(400, 3, 1), 1},
		{date(500, 2, 28), 1}, {date(500, 3, 1), 2},
		{date(1500, 2, 28), 9}, {date(1500, 3, 1), 10},
		{date(1600, 2, 28), 10}, {date(1600, 2, 29), 10}, {date(1600, 3, 1), 10},
		{date(1700, 2, 28), 10}, {date(1700, 3, 1), 11},
		{date(1800, 2, 28), 11}, {date(1800, 3, 1), 12},
		{date(1900, 1, 1), 12}, {date(1900, 2, 28), 12}, {date(1900, 3, 1), 13}, {date(1900, 12, 31), 13},
		{date(2000, 2, 28), 13}, {date(2000, 2, 29), 13}, {date(2000, 3, 1), 13},
		{date(2100, 2, 28), 13}, {date(2100, 3, 1), 14},
		{date(2400, 2, 29), 16},
		{date(1_000_000, 2, 29), 7498},
		{date(api.MaxYear-400, 2, 29), 7_499_995},
		{date(api.MaxYear-100, 2, 28), 7_499_997}, {date(api.MaxYear-100, 3, 1), 7_499_998},
		{date(api.MaxYear, 2, 28), 7_499_998}, {date(api.MaxYear, 2, 29), 7_499_998}, {date(api.MaxYear, 3, 1), 7_499_998},
	} {
		if got := pack(orthodox.Delay(x.d)); got != some(x.want) {
			t.Errorf("Delay(%v) = %v, want %d", x.d, got, x.want)
		}
	}
}

// sample lists years: the ends of the range, common and leap years, and century
// years that are a leap year in the Julian calendar only and in both.
func sample() []int {
	return []int{api.MinYear, 2, 3, 4, 99, 100, 101, 200, 300, 400, 500, 1500, 1582, 1583, 1600, 1700, 1900, 1999, 2000, 2023, 2024, 2100, lastDated, lastDated + 1, api.MaxYear - 100, api.MaxYear - 1, api.MaxYear}
}

// wantDelay returns the delay of a date that is valid in both calendars. It
// grows by the 29 February that the Gregorian calendar omits.
func wantDelay(d api.Date) int {
	year := d.Year
	if d.Month <= 2 {
		year--
	}
	return year/100 - year/400 - 2
}

// P13.3: the delays of all dates of a year; the ones that are not valid in both
// calendars have none.
func TestDelayOfEveryDate(t *testing.T) {
	for _, year := range sample() {
		valid := 0
		for month := -1; month <= 14; month++ {
			for day := -1; day <= 33; day++ {
				d := date(year, month, day)
				_, inJulian := civil.ToDay(api.Julian, d)
				_, inGregorian := civil.ToDay(api.Gregorian, d)
				want := none(api.ErrDate)
				if inJulian == api.OK && inGregorian == api.OK {
					want = some(wantDelay(d))
					valid++
				}
				if got := pack(orthodox.Delay(d)); got != want {
					t.Errorf("Delay(%v) = %v, want %v", d, got, want)
				}
			}
		}
		if length, _ := civil.YearLength(api.Gregorian, year); valid != length {
			t.Errorf("%d dates of %d are valid in both calendars, want %d", valid, year, length)
		}
	}
}

// P13.3: the day with the Julian date d has a Gregorian date that is later by
// the delay, if it has one.
func TestDelayIsThatOfTheGregorianDate(t *testing.T) {
	for _, year := range spans() {
		for _, x := range [][2]int{{1, 1}, {1, 3}, {2, 28}, {3, 1}, {4, 22}, {12, 31}} {
			d := date(year, x[0], x[1])
			n, errno := orthodox.Delay(d)
			if errno != api.OK || n != wantDelay(d) {
				t.Errorf("Delay(%v) = %d, %d, want %d", d, n, errno, wantDelay(d))
			}
			want := packDate(civil.Convert(d, api.Julian, api.Gregorian))
			if got := packDate(civil.Shift(api.Gregorian, d, n)); got != want {
				t.Errorf("%v is %d days before %v, want %v", d, n, got, want)
			}
		}
	}
}

// P13.3: 29 February of years that are a leap year in no calendar, in the Julian
// calendar only, and in both.
func TestDelayOf29February(t *testing.T) {
	for year, want := range map[int]number{
		1: none(api.ErrDate), 2: none(api.ErrDate), 3: none(api.ErrDate), 4: some(-2), 96: some(-2), 104: some(-1),
		100: none(api.ErrDate), 200: none(api.ErrDate), 300: none(api.ErrDate), 400: some(1), 500: none(api.ErrDate),
		1500: none(api.ErrDate), 1582: none(api.ErrDate), 1600: some(10), 1700: none(api.ErrDate), 1800: none(api.ErrDate),
		1900: none(api.ErrDate), 1904: some(13), 2000: some(13), 2023: none(api.ErrDate), 2024: some(13), 2100: none(api.ErrDate),
		api.MaxYear - 300: none(api.ErrDate), api.MaxYear - 100: none(api.ErrDate), api.MaxYear - 4: some(7_499_998), api.MaxYear - 1: none(api.ErrDate), api.MaxYear: some(7_499_998),
		api.MinYear - 1: none(api.ErrRange), -4: none(api.ErrRange), api.MaxYear + 4: none(api.ErrRange), api.MaxYear + 100: none(api.ErrRange),
	} {
		if got := pack(orthodox.Delay(date(year, 2, 29))); got != want {
			t.Errorf("Delay(29 February %d) = %v, want %v", year, got, want)
		}
	}
}

// outside lists months and days that no year has.
func outside() [][2]int {
	extremes := []int{0, -1, -2, -12, -28, -31, least, least + 1, least + 3, -1 << 32, -1<<32 + 1, 1 << 32, 1<<32 + 1, 1<<32 + 3, 1 << 62, most - 1, most}
	noMonths := append([]int{13, 14, 24, 25, 256, 257}, extremes...)
	noDays := append([]int{32, 33, 60, 100, 256, 257}, extremes...)
	l := [][2]int{{2, 30}, {2, 31}, {4, 31}, {6, 31}, {9, 31}, {11, 31}}
	for month := 1; month <= 12; month++ {
		for _, day := range noDays {
			l = append(l, [2]int{month, day})
		}
	}
	for _, month := range noMonths {
		for _, day := range append([]int{1, 2, 12, 21, 28, 29, 30, 31}, noDays...) {
			l = append(l, [2]int{month, day})
		}
	}
	return l
}

// P13.3: months and days outside of the year, with 0.
func TestDelayOfNoDate(t *testing.T) {
	for _, year := range sample() {
		for _, x := range outside() {
			d := date(year, x[0], x[1])
			if got := pack(orthodox.Delay(d)); got != none(api.ErrDate) {
				t.Errorf("Delay(%v) = %v, want 0 and ErrDate", d, got)
			}
		}
	}
}

// P13.3: years out of range, before ErrDate, with 0.
func TestDelayOfYearsOutOfRange(t *testing.T) {
	days := append(outside(), [2]int{1, 1}, [2]int{2, 28}, [2]int{2, 29}, [2]int{3, 1}, [2]int{4, 22}, [2]int{12, 31})
	for _, year := range noYears() {
		for _, x := range days {
			d := date(year, x[0], x[1])
			if got := pack(orthodox.Delay(d)); got != none(api.ErrRange) {
				t.Errorf("Delay(%v) = %v, want 0 and ErrRange", d, got)
			}
		}
	}
}
