package golden_test

import (
	"math"
	"testing"

	"computus/api"
	"computus/civil"
	"computus/golden"
	"computus/gregorian"
	"computus/julian"
)

const (
	least = math.MinInt
	most  = math.MaxInt
)

// number is what Golden, Century, Solar and Lunar return.
type number struct {
	n     int
	errno api.Errno
}

func pack(n int, errno api.Errno) number { return number{n, errno} }

func found(n int) number { return number{n, api.OK} }

func failed(errno api.Errno) number { return number{0, errno} }

// letters is what Letters returns.
type letters struct {
	first, second int
	errno         api.Errno
}

func packLetters(first, second int, errno api.Errno) letters { return letters{first, second, errno} }

func pair(first, second int) letters { return letters{first, second, api.OK} }

func noLetters(errno api.Errno) letters { return letters{0, 0, errno} }

// both lists the calendars.
func both() []int { return []int{api.Julian, api.Gregorian} }

// noCalendars lists numbers that are not calendars.
func noCalendars() []int {
	return []int{0, 3, 4, -1, -2, -3, 1 << 32, 1<<32 + 1, 1<<32 + 2, -1 << 32, least, least + 1, least + 2, most, most - 1}
}

// noYears lists years that no function accepts.
func noYears() []int {
	return []int{0, -1, -2, -4, -19, -99, -100, -101, -400, -1583, -2000, -api.MaxYear, api.MaxYear + 1, api.MaxYear + 2, api.MaxYear + 19, api.MaxYear + 100, 2 * api.MaxYear, 1 << 32, 1<<32 + 2000, -1 << 32, -1<<32 + 2000, 1 << 62, -1 << 62, least, least + 1, least + 2000, most, most - 1}
}

// beforeGregorian lists years that Solar and Lunar do not accept, although they
// are years.
func beforeGregorian() []int {
	return []int{1, 2, 4, 99, 100, 400, 1000, 1500, 1581, api.FirstGregorian - 1}
}

// spans lists years from the whole range: all of the first and the last ones,
// and some in between. None of them is less than from.
func spans(from int) []int {
	var l []int
	for i := range 3000 {
		l = append(l, from+i, api.MaxYear-i)
	}
	const step = 999_999_000 / 4999
	for year := from; year <= api.MaxYear; year += step {
		l = append(l, year)
	}
	return l
}

// starts lists the first years of centuries from the whole range, all of which
// have a century before them that begins after FirstGregorian.
func starts() []int {
	var l []int
	for i := range 3000 {
		l = append(l, 1700+100*i, api.MaxYear-100*i, api.MaxYear/2+100*i)
	}
	const step = 100 * (api.MaxYear / 100 / 2003)
	for year := 1700; year <= api.MaxYear; year += step {
		l = append(l, year)
	}
	return l
}

// leap reports whether a year is a leap year, by the calendar's own package.
func leap(calendar, year int) bool {
	if calendar == api.Julian {
		return julian.Leap(year)
	}
	return gregorian.Leap(year)
}

// P6.1: known years, the ends of cycles, and the ends of the range.
func TestGolden(t *testing.T) {
	for year, want := range map[int]int{
		api.MinYear: 2, 2: 3, 3: 4, 17: 18, 18: 19, 19: 1, 20: 2, 37: 19, 38: 1, 39: 2,
		1582: 6, 1583: 7, 1899: 19, 1900: 1, 1901: 2, 1954: 17, 1981: 6, 1999: 5, 2000: 6, 2001: 7,
		2013: 19, 2014: 1, 2015: 2, 2024: 11, 2032: 19, 2033: 1,
		api.MaxYear - 19: 19, api.MaxYear - 18: 1, api.MaxYear - 17: 2, api.MaxYear - 1: 18, api.MaxYear: 19,
	} {
		if got := pack(golden.Golden(year)); got != found(want) {
			t.Errorf("Golden(%d) = %v, want %d", year, got, want)
		}
	}
}

// P6.1: the golden number is the one from 1 to 19 that differs by whole cycles
// from the year plus 1.
func TestGoldenIsTheRemainder(t *testing.T) {
	for _, year := range spans(api.MinYear) {
		got := pack(golden.Golden(year))
		if got.errno != api.OK || got.n < 1 || got.n > 19 || (year+1-got.n)%19 != 0 {
			t.Fatalf("Golden(%d) = %v", year, got)
		}
	}
}

// P6.1: the golden number follows the one of the year before, or begins anew.
func TestGoldenFollows(t *testing.T) {
	for _, start := range []int{api.MinYear, 1 << 29, api.MaxYear - 2000} {
		before, _ := golden.Golden(start)
		for year := start + 1; year <= start+2000; year++ {
			got := pack(golden.Golden(year))
			if got != found(before%19+1) {
				t.Fatalf("Golden(%d) = %v after %d", year, got, before)
			}
			before = got.n
		}
	}
}

// P6.1: known years, the ends of centuries, and the ends of the range.
func TestCentury(t *testing.T) {
	for year, want := range map[int]int{
		api.MinYear: 1, 2: 1, 50: 1, 98: 1, 99: 1, 100: 2, 101: 2, 199: 2, 200: 3, 201: 3,
		999: 10, 1000: 11, 1582: 16, 1583: 16, 1599: 16, 1600: 17, 1699: 17, 1700: 18,
		1899: 19, 1900: 20, 1999: 20, 2000: 21, 2001: 21, 2024: 21, 2099: 21, 2100: 22,
		api.MaxYear - 101: 9_999_999, api.MaxYear - 100: 10_000_000, api.MaxYear - 1: 10_000_000, api.MaxYear: 10_000_001,
	} {
		if got := pack(golden.Century(year)); got != found(want) {
			t.Errorf("Century(%d) = %v, want %d", year, got, want)
		}
	}
}

// P6.1: the year is among the hundred years of its century.
func TestCenturyContainsTheYear(t *testing.T) {
	for _, year := range spans(api.MinYear) {
		got := pack(golden.Century(year))
		if got.errno != api.OK || year < 100*(got.n-1) || year >= 100*got.n {
			t.Fatalf("Century(%d) = %v", year, got)
		}
	}
}

// P6.1: years out of range, with the number 0.
func TestGoldenAndCenturyOutOfRange(t *testing.T) {
	for _, year := range append(noYears(), api.MinYear-1, api.MaxYear+1) {
		if got := pack(golden.Golden(year)); got != failed(api.ErrRange) {
			t.Errorf("Golden(%d) = %v, want ErrRange", year, got)
		}
		if got := pack(golden.Century(year)); got != failed(api.ErrRange) {
			t.Errorf("Century(%d) = %v, want ErrRange", year, got)
		}
	}
}

// P6.1, P6.2: the least and the greatest year that each function accepts are
// next to one that it does not accept.
func TestEndsOfTheRange(t *testing.T) {
	for name, c := range map[string]struct {
		f     func(year int) (int, api.Errno)
		first int
	}{
		"Golden":  {golden.Golden, api.MinYear},
		"Century": {golden.Century, api.MinYear},
		"Solar":   {golden.Solar, api.FirstGregorian},
		"Lunar":   {golden.Lunar, api.FirstGregorian},
	} {
		for _, year := range []int{c.first, c.first + 1, api.MaxYear - 1, api.MaxYear} {
			if _, errno := c.f(year); errno != api.OK {
				t.Errorf("%s(%d) has the error %d", name, year, errno)
			}
		}
		for _, year := range []int{c.first - 1, api.MaxYear + 1} {
			if got := pack(c.f(year)); got != failed(api.ErrRange) {
				t.Errorf("%s(%d) = %v, want ErrRange", name, year, got)
			}
		}
	}
}

// P6.2: the first and the last year of centuries in which the corrections grow,
// both, one of them or none, and the ends of the range.
func TestCorrections(t *testing.T) {
	for _, x := range []struct{ first, last, solar, lunar int }{
		{api.FirstGregorian, 1599, 0, 0},
		{1600, 1699, 0, 0},
		{1700, 1799, 1, 0},
		{1800, 1899, 2, 1},
		{1900, 1999, 3, 1},
		{2000, 2099, 3, 1},
		{2100, 2199, 4, 2},
		{2200, 2299, 5, 2},
		{2300, 2399, 6, 2},
		{2400, 2499, 6, 3},
		{2700, 2799, 9, 4},
		{3600, 3699, 15, 7},
		{3900, 3999, 18, 8},
		{4000, 4099, 18, 8},
		{4200, 4299, 20, 8},
		{4300, 4399, 21, 9},
		{9900, 9999, 63, 27},
		{10000, 10099, 63, 27},
		{api.MaxYear - 100, api.MaxYear - 1, 7_499_988, 3_199_995},
		{api.MaxYear, api.MaxYear, 7_499_988, 3_199_995},
	} {
		for _, year := range []int{x.first, (x.first + x.last) / 2, x.last} {
			if got := pack(golden.Solar(year)); got != found(x.solar) {
				t.Errorf("Solar(%d) = %v, want %d", year, got, x.solar)
			}
			if got := pack(golden.Lunar(year)); got != found(x.lunar) {
				t.Errorf("Lunar(%d) = %v, want %d", year, got, x.lunar)
			}
		}
	}
}

// P6.2: the corrections are the quotients rounded down, as an inequality.
func TestCorrectionsAreRoundedDown(t *testing.T) {
	for _, year := range append(spans(api.FirstGregorian), starts()...) {
		century := 1 + year/100
		solar := pack(golden.Solar(year))
		if over := 3*century - 4*(solar.n+12); solar.errno != api.OK || over < 0 || over >= 4 {
			t.Fatalf("Solar(%d) = %v", year, solar)
		}
		lunar := pack(golden.Lunar(year))
		if over := 8*century + 5 - 25*(lunar.n+5); lunar.errno != api.OK || over < 0 || over >= 25 {
			t.Fatalf("Lunar(%d) = %v", year, lunar)
		}
	}
}

// P6.2: the solar correction counts the leap days that the Gregorian calendar
// has omitted since 1600.
func TestSolarCountsOmittedLeapDays(t *testing.T) {
	omitted := 0
	for year := api.FirstGregorian; year <= 20000; year++ {
		if julian.Leap(year) && !gregorian.Leap(year) {
			omitted++
		}
		if got := pack(golden.Solar(year)); got != found(omitted) {
			t.Fatalf("Solar(%d) = %v, want %d", year, got, omitted)
		}
	}
}

// P6.2: the lunar correction grows every 300 years, seven times in a row, and
// then after 400 years.
func TestLunarGrowsEightTimesIn2500Years(t *testing.T) {
	want, next, times := 0, 1800, 1
	for year := api.FirstGregorian; year <= 40000; year++ {
		if year == next {
			want++
			next += 300
			if times%8 == 0 {
				next += 100
			}
			times++
		}
		if got := pack(golden.Lunar(year)); got != found(want) {
			t.Fatalf("Lunar(%d) = %v, want %d", year, got, want)
		}
	}
}

// P6.2: years out of range, with the number 0.
func TestCorrectionsOutOfRange(t *testing.T) {
	for _, year := range append(noYears(), beforeGregorian()...) {
		if got := pack(golden.Solar(year)); got != failed(api.ErrRange) {
			t.Errorf("Solar(%d) = %v, want ErrRange", year, got)
		}
		if got := pack(golden.Lunar(year)); got != failed(api.ErrRange) {
			t.Errorf("Lunar(%d) = %v, want ErrRange", year, got)
		}
	}
}

// P6.4: from one century to the next, both corrections grow by 0 or 1, and
// within a century they stay.
func TestCorrectionsGrowByAtMostOne(t *testing.T) {
	for name, correction := range map[string]func(year int) (int, api.Errno){"Solar": golden.Solar, "Lunar": golden.Lunar} {
		grown := map[int]int{}
		for _, year := range starts() {
			before, now := pack(correction(year-1)), pack(correction(year))
			growth := now.n - before.n
			if before.errno != api.OK || now.errno != api.OK || growth < 0 || growth > 1 {
				t.Fatalf("%s grows from %v to %v in %d", name, before, now, year)
			}
			grown[growth]++
			if got := pack(correction(year - 100)); got != before {
				t.Fatalf("%s(%d) = %v, but %v in %d", name, year-100, got, before, year-1)
			}
		}
		if grown[0] == 0 || grown[1] == 0 {
			t.Errorf("%s stays in %d centuries and grows in %d", name, grown[0], grown[1])
		}
	}
}

// P6.3: known letters: common years and leap years that begin with each day of
// the week, and years that are leap years of one calendar only.
func TestLettersOfGregorianYears(t *testing.T) {
	for year, want := range map[int]letters{
		2017: pair(1, 1), 2011: pair(2, 2), 2010: pair(3, 3), 2009: pair(4, 4), 2015: pair(4, 4), 2014: pair(5, 5), 2013: pair(6, 6), 2018: pair(7, 7),
		2012: pair(1, 7), 2000: pair(2, 1), 2016: pair(3, 2), 2004: pair(4, 3), 2020: pair(5, 4), 2008: pair(6, 5), 2024: pair(7, 6),
		api.MinYear: pair(7, 7), 4: pair(4, 3), 100: pair(3, 3), 400: pair(2, 1),
		1582: pair(3, 3), 1583: pair(2, 2), 1600: pair(2, 1), 1700: pair(3, 3), 1800: pair(5, 5), 1900: pair(7, 7), 1954: pair(3, 3), 1981: pair(4, 4),
		2023: pair(1, 1), 2100: pair(3, 3), 2400: pair(2, 1),
		api.MaxYear - 1: pair(3, 3), api.MaxYear: pair(2, 1),
	} {
		if got := packLetters(golden.Letters(api.Gregorian, year)); got != want {
			t.Errorf("Letters(Gregorian, %d) = %v, want %v", year, got, want)
		}
	}
}

// P6.3: known letters of the Julian calendar, which return after 28 years; the
// leap years among them begin with each day of the week.
func TestLettersOfJulianYears(t *testing.T) {
	for year, want := range map[int]letters{
		1: pair(2, 2), 2: pair(1, 1), 3: pair(7, 7), 4: pair(6, 5), 5: pair(4, 4), 6: pair(3, 3), 7: pair(2, 2), 8: pair(1, 7),
		9: pair(6, 6), 10: pair(5, 5), 12: pair(3, 2), 16: pair(5, 4), 20: pair(7, 6), 24: pair(2, 1), 28: pair(4, 3),
		1582: pair(7, 7), 1583: pair(6, 6), 1700: pair(7, 6), 1800: pair(1, 7), 1900: pair(2, 1), 2100: pair(4, 3),
		api.MaxYear - 1: pair(1, 1), api.MaxYear: pair(7, 6),
	} {
		if got := packLetters(golden.Letters(api.Julian, year)); got != want {
			t.Errorf("Letters(Julian, %d) = %v, want %v", year, got, want)
		}
	}
}

// firstSunday searches a year for its first Sunday, and returns its day of the year.
func firstSunday(t *testing.T, calendar, year int) int {
	for day := 1; day <= 7; day++ {
		d, _ := civil.FromYear(calendar, year, day)
		if w, errno := civil.Weekday(calendar, d); w == api.Sunday && errno == api.OK {
			return day
		}
	}
	t.Fatalf("the year %d has no first Sunday", year)
	return 0
}

// P6.3: the first letter is the day of the first Sunday, and the second one
// depends on the leap day.
func TestLettersBySearch(t *testing.T) {
	for _, calendar := range both() {
		kinds := map[letters]int{}
		for _, year := range spans(api.MinYear) {
			first := firstSunday(t, calendar, year)
			want := pair(first, first)
			if leap(calendar, year) {
				want.second = []int{7, 1, 2, 3, 4, 5, 6}[first-1]
			}
			if got := packLetters(golden.Letters(calendar, year)); got != want {
				t.Fatalf("Letters(%d, %d) = %v, want %v", calendar, year, got, want)
			}
			kinds[want]++
		}
		if len(kinds) != 14 {
			t.Errorf("the calendar %d has %d kinds of years, want 14", calendar, len(kinds))
		}
	}
}

// P6.3: the letters return after 28 years of the Julian calendar and after 400
// years of the Gregorian one, and a year begins with the letter before the last
// one of the year before.
func TestLettersReturn(t *testing.T) {
	cycles := map[int]int{api.Julian: 28, api.Gregorian: 400}
	for calendar, cycle := range cycles {
		for _, start := range []int{api.MinYear, 1 << 29, api.MaxYear - 2000} {
			for year := start; year <= start+2000-cycle; year++ {
				now := packLetters(golden.Letters(calendar, year))
				if again := packLetters(golden.Letters(calendar, year+cycle)); again != now {
					t.Fatalf("Letters(%d, %d) = %v, but %v in %d", calendar, year+cycle, again, now, year)
				}
				if next := packLetters(golden.Letters(calendar, year+1)); next.first != (now.second+5)%7+1 {
					t.Fatalf("Letters(%d, %d) = %v, after %v", calendar, year+1, next, now)
				}
			}
		}
	}
}

// P6.3: wrong calendars, also with years out of range, with the letters 0.
func TestLettersOfWrongCalendars(t *testing.T) {
	for _, calendar := range noCalendars() {
		for _, year := range append(noYears(), api.MinYear, 4, 1583, 1900, 2000, 2012, api.MaxYear) {
			if got := packLetters(golden.Letters(calendar, year)); got != noLetters(api.ErrArg) {
				t.Errorf("Letters(%d, %d) = %v, want ErrArg", calendar, year, got)
			}
		}
	}
}

// P6.3: years out of range, with the letters 0; the years next to them have letters.
func TestLettersOutOfRange(t *testing.T) {
	for _, calendar := range both() {
		for _, year := range append(noYears(), api.MinYear-1, api.MaxYear+1) {
			if got := packLetters(golden.Letters(calendar, year)); got != noLetters(api.ErrRange) {
				t.Errorf("Letters(%d, %d) = %v, want ErrRange", calendar, year, got)
			}
		}
		for _, year := range []int{api.MinYear, api.MaxYear} {
			if got := packLetters(golden.Letters(calendar, year)); got.errno != api.OK || got.first < 1 || got.first > 7 {
				t.Errorf("Letters(%d, %d) = %v", calendar, year, got)
			}
		}
	}
}

// P6.4: in years of all kinds, a day is a Sunday exactly if it and the letter
// that applies to it leave the same remainder.
func TestSundaysHaveTheLetter(t *testing.T) {
	years := []int{1582, 1583, 1600, 1700, 1800, 1900, 100, 200, 400, 99999, 123456788, 1<<29 + 3}
	for i := range 40 {
		years = append(years, api.MinYear+i, 2000+i, api.MaxYear-i)
	}
	for _, calendar := range both() {
		for _, year := range years {
			checkSundays(t, calendar, year)
		}
	}
}

func checkSundays(t *testing.T, calendar, year int) {
	first, second, _ := golden.Letters(calendar, year)
	length, _ := civil.YearLength(calendar, year)
	for day := 1; day <= length; day++ {
		d, _ := civil.FromYear(calendar, year, day)
		// The leap day is the one date that a common year does not have: it
		// keeps its own number and the first letter.
		n, errno := civil.OfYear(calendar, api.Date{Year: 2023, Month: d.Month, Day: d.Day})
		if errno != api.OK {
			n = day
		}
		letter := first
		if d.Month > 2 {
			letter = second
		}
		w, _ := civil.Weekday(calendar, d)
		if (w == api.Sunday) != (n%7 == letter%7) {
			t.Errorf("%v of the calendar %d: the day %d has the day of the week %d, and the letter is %d", d, calendar, n, w, letter)
		}
	}
}
