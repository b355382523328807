package cycle_test

import (
	"math"
	"slices"
	"testing"

	"computus/api"
	"computus/cycle"
	"computus/easter"
	"computus/gauss"
)

const (
	least = math.MinInt
	most  = math.MaxInt

	// mostYears is the greatest number of years of a range.
	mostYears = 10_000

	julianPeriod    = 532
	gregorianPeriod = 5_700_000
)

// numbered is what Period, Next and Earliest return.
type numbered struct {
	n     int
	errno api.Errno
}

func pack(n int, errno api.Errno) numbered { return numbered{n, errno} }

func none(errno api.Errno) numbered { return numbered{0, errno} }

func some(n int) numbered { return numbered{n, api.OK} }

// counted is what Histogram returns.
type counted struct {
	counts [35]int
	errno  api.Errno
}

func packCounts(counts [35]int, errno api.Errno) counted { return counted{counts, errno} }

// monthDay is a month and a day of it.
type monthDay struct{ month, day int }

// span is a range of years.
type span struct{ first, last int }

// both lists the calendars.
func both() []int { return []int{api.Julian, api.Gregorian} }

// firstYear returns the first year of a calendar that has an Easter.
func firstYear(calendar int) int {
	if calendar == api.Julian {
		return api.MinYear
	}
	return api.FirstGregorian
}

// noCalendars lists numbers that are not calendars.
func noCalendars() []int {
	return []int{0, 3, 4, 5, -1, -2, -3, 532, 1 << 32, 1<<32 + 1, 1<<32 + 2, -1 << 32, -1<<32 + 1, -1<<32 + 2, least, least + 1, least + 2, most, most - 1}
}

// noYears lists years that are not accepted in a calendar.
func noYears(calendar int) []int {
	l := []int{0, -1, -2, -4, -19, -400, -532, -1583, -2000, -9998, -9999, -10_000, -api.MaxYear, api.MaxYear + 1, api.MaxYear + 2, api.MaxYear + 532, api.MaxYear + 9999, 2 * api.MaxYear, 1 << 32, 1<<32 + 2000, -1 << 32, -1<<32 + 2000, 1 << 62, -1 << 62, least, least + 1, least + 2000, most, most - 1, most - 9999}
	if calendar == api.Gregorian {
		for year := api.MinYear; year < api.FirstGregorian; year++ {
			l = append(l, year)
		}
	}
	return l
}

// noSpans lists ranges of years that are not valid for a calendar.
func noSpans(calendar int) []span {
	first := firstYear(calendar)
	l := []span{
		// A year that the calendar does not have, at either end or at both.
		{first - 1, first - 1}, {first - 1, first}, {first - 1, first + 100}, {first - 1, first + mostYears - 2}, {first - 1, first + mostYears - 1},
		{api.MaxYear, api.MaxYear + 1}, {api.MaxYear + 1, api.MaxYear + 1}, {api.MaxYear - 100, api.MaxYear + 1}, {api.MaxYear - mostYears + 2, api.MaxYear + 1},
		{first - 2, first - 1}, {-2000, -1900}, {0, 0}, {0, 1}, {-1, 1}, {api.MaxYear + 1, api.MaxYear + 100},
		// A first year after the last one.
		{first + 1, first}, {2001, 2000}, {2000, first}, {2000, 1999}, {12_000, 2000}, {12_000, 2001}, {api.MaxYear, first}, {api.MaxYear, api.MaxYear - 1},
		{api.MaxYear + 1, api.MaxYear}, {first, first - 1}, {2000, 0}, {2000, -2000},
		// More than 10,000 years.
		{first, first + mostYears}, {first, first + mostYears + 1}, {2000, 12_000}, {2000, 12_001}, {2000, 102_000}, {first, api.MaxYear},
		{api.MaxYear - mostYears, api.MaxYear}, {api.MaxYear - mostYears - 1, api.MaxYear}, {2000, 1<<32 + 2000 - 1}, {2000, 1<<32 + 2000},
		// Years whose difference does not fit, or is that of a valid range if it wraps
		// around.
		{least, most}, {most, least}, {least, least}, {most, most}, {least, least + 100}, {most - 100, most}, {least, 2000}, {2000, most}, {2000, least}, {most, 2000},
		{most - 99, least}, {most, least + 99}, {-1 << 62, 1 << 62}, {1 << 62, -1 << 62}, {least, 0}, {0, most}, {-1, most}, {least, -1}, {1, most}, {least, 1},
	}
	for _, year := range noYears(calendar) {
		l = append(l, span{year, year}, span{year, 2000}, span{2000, year})
	}
	return l
}

// spans lists ranges of years of a calendar of many lengths: at both ends of
// the calendar and in between.
func spans(calendar int) []span {
	first := firstYear(calendar)
	var l []span
	for _, years := range []int{1, 2, 3, 19, 99, 100, 531, 532, 533, mostYears - 1, mostYears} {
		l = append(l, span{first, first + years - 1}, span{api.MaxYear - years + 1, api.MaxYear}, span{2000, 2000 + years - 1}, span{123_456_789, 123_456_789 + years - 1})
	}
	return l
}

// dayOf returns the number of days from 22 March to a month and day.
func dayOf(d monthDay) int {
	if d.month == 3 {
		return d.day - 22
	}
	return d.day + 9
}

// easterDays lists the days from 22 March to 25 April.
func easterDays() []monthDay {
	var l []monthDay
	for day := 22; day <= 31; day++ {
		l = append(l, monthDay{3, day})
	}
	for day := 1; day <= 25; day++ {
		l = append(l, monthDay{4, day})
	}
	return l
}

// noDays lists months and days on which Easter is never. Some of them have the
// number of a day on which Easter is, or would have it if 64-bit integers were
// cut off or wrapped around.
func noDays() []monthDay {
	return []monthDay{
		{3, 21}, {4, 26}, {3, 20}, {4, 27}, {3, 1}, {4, 30}, {5, 1}, {5, 5}, {2, 28}, {2, 29}, {1, 1}, {12, 31}, {4, 0}, {3, 0}, {3, 32}, {3, 33}, {3, 56}, {4, 31}, {4, -1}, {4, -9},
		{2, 30}, {2, 53}, {2, 62}, {5, -5}, {5, -30}, {0, 0}, {0, 22}, {0, 115}, {0, 148}, {13, 1}, {15, 22}, {16, 25}, {-3, 22}, {3, -22}, {-3, -22}, {22, 3}, {25, 4}, {33, 22},
		{3 + 1<<32, 22}, {3, 22 + 1<<32}, {4 - 1<<32, 1}, {4, 1 - 1<<32}, {least, least}, {most, most}, {least, 22}, {3, least}, {most, 1}, {4, most}, {least + 3, 22}, {4, least + 1},
	}
}

// easters lists the days of Easter of the years of a range, by the tables of
// layer 10.
func easters(calendar int, s span) []monthDay {
	var l []monthDay
	for year := s.first; year <= s.last; year++ {
		d, _ := easter.Date(calendar, year)
		l = append(l, monthDay{d.Month, d.Day})
	}
	return l
}

// checkNoSpan fails the test unless all functions reject a range of years, with
// zero results.
func checkNoSpan(t *testing.T, calendar int, s span, want api.Errno) {
	t.Helper()
	for _, d := range []monthDay{{3, 22}, {4, 10}, {4, 16}, {4, 25}, {3, 21}, {0, 0}, {least, most}} {
		if got, errno := cycle.Years(calendar, s.first, s.last, d.month, d.day); len(got) != 0 || errno != want {
			t.Errorf("Years(%d, %v, %v) = %v, %d, want none and %d", calendar, s, d, got, errno, want)
		}
	}
	if got := packCounts(cycle.Histogram(calendar, s.first, s.last)); got != (counted{errno: want}) {
		t.Errorf("Histogram(%d, %v) = %v, want zeros and %d", calendar, s, got, want)
	}
	if got := pack(cycle.Earliest(calendar, s.first, s.last)); got != none(want) {
		t.Errorf("Earliest(%d, %v) = %v, want 0 and %d", calendar, s, got, want)
	}
}

// P14.1: the periods of both calendars.
func TestPeriod(t *testing.T) {
	for calendar, want := range map[int]int{api.Julian: julianPeriod, api.Gregorian: gregorianPeriod} {
		if got := pack(cycle.Period(calendar)); got != some(want) {
			t.Errorf("Period(%d) = %v, want %d", calendar, got, want)
		}
	}
}

// P14.1, P14.2, P14.3, P14.4: numbers that are not calendars, with ranges,
// years and days that are valid and with such that are not, as ErrArg is before
// ErrRange.
func TestNoSuchCalendar(t *testing.T) {
	for _, calendar := range noCalendars() {
		if got := pack(cycle.Period(calendar)); got != none(api.ErrArg) {
			t.Errorf("Period(%d) = %v, want 0 and ErrArg", calendar, got)
		}
		for _, s := range []span{{2000, 2000}, {2000, 2100}, {1, 10_000}, {1583, 11_582}, {1, 10}, {0, 0}, {0, 2000}, {2000, 1999}, {1, 10_001}, {2000, api.MaxYear + 1}, {least, most}, {most, least}, {most, most}} {
			checkNoSpan(t, calendar, s, api.ErrArg)
			for _, d := range []monthDay{{4, 10}, {3, 21}, {0, 0}, {least, most}} {
				if got := pack(cycle.Next(calendar, s.first, d.month, d.day)); got != none(api.ErrArg) {
					t.Errorf("Next(%d, %d, %v) = %v, want 0 and ErrArg", calendar, s.first, d, got)
				}
			}
		}
	}
}

// P14.2, P14.4: ranges of years that are not valid.
func TestNoSuchRange(t *testing.T) {
	for _, calendar := range both() {
		for _, s := range noSpans(calendar) {
			checkNoSpan(t, calendar, s, api.ErrRange)
		}
	}
}

// P14.2, P14.4: the range of years of the Julian calendar begins earlier, so a
// range may be valid in it only.
func TestRangesOfTheJulianCalendarOnly(t *testing.T) {
	for _, s := range []span{{1, 1}, {1, 10_000}, {325, 325}, {1582, 1582}, {1582, 1583}, {1582, 11_581}, {1500, 2000}} {
		if counts, errno := cycle.Histogram(api.Julian, s.first, s.last); errno != api.OK || sum(counts) != s.last-s.first+1 {
			t.Errorf("Histogram(Julian, %v) = %v, %d", s, counts, errno)
		}
		checkNoSpan(t, api.Gregorian, s, api.ErrRange)
	}
}

// P14.2: the example of the chapter, and other years of known days.
func TestYearsOfKnownDays(t *testing.T) {
	for _, x := range []struct {
		calendar int
		s        span
		d        monthDay
		want     []int
	}{
		{api.Gregorian, span{1583, 2200}, monthDay{3, 22}, []int{1598, 1693, 1761, 1818}},
		{api.Gregorian, span{1583, 2200}, monthDay{3, 23}, []int{1636, 1704, 1788, 1845, 1856, 1913, 2008, 2160}},
		{api.Gregorian, span{1583, 2200}, monthDay{4, 24}, []int{1639, 1707, 1791, 1859, 2011, 2095, 2163}},
		{api.Gregorian, span{1583, 2200}, monthDay{4, 25}, []int{1666, 1734, 1886, 1943, 2038, 2190}},
		{api.Gregorian, span{1900, 2099}, monthDay{3, 31}, []int{1907, 1918, 1929, 1991, 2002, 2013, 2024, 2086, 2097}},
		{api.Gregorian, span{1900, 2099}, monthDay{4, 1}, []int{1923, 1934, 1945, 1956, 2018, 2029, 2040}},
		{api.Gregorian, span{1900, 2099}, monthDay{4, 19}, []int{1908, 1981, 1987, 1992, 2071, 2076, 2082}},
		{api.Gregorian, span{1583, 1682}, monthDay{4, 10}, []int{1583, 1594, 1605, 1667, 1678}},
		{api.Julian, span{1, 532}, monthDay{3, 22}, []int{72, 319, 414, 509}},
		{api.Julian, span{1, 532}, monthDay{3, 23}, []int{4, 167, 251, 262, 346, 357, 441, 452}},
		{api.Julian, span{1, 532}, monthDay{4, 25}, []int{45, 140, 387, 482}},
		{api.Julian, span{1, 100}, monthDay{3, 27}, []int{1, 12, 91, 96}},
		{api.Julian, span{1500, 1699}, monthDay{3, 31}, []int{1510, 1521, 1532, 1583, 1594, 1605, 1616, 1678, 1689}},
		{api.Julian, span{1500, 1699}, monthDay{4, 1}, []int{1526, 1537, 1548, 1621, 1632}},
		// The last years.
		{api.Gregorian, span{api.MaxYear - 3000, api.MaxYear}, monthDay{3, 22}, []int{999_997_440, 999_997_508, 999_998_499, 999_998_871, 999_999_243, 999_999_395, 999_999_463, 999_999_615, 999_999_835, 999_999_987}},
		{api.Gregorian, span{api.MaxYear - 2000, api.MaxYear}, monthDay{4, 25}, []int{999_998_032, 999_998_100, 999_998_320, 999_998_624, 999_999_683}},
		{api.Julian, span{api.MaxYear - 999, api.MaxYear}, monthDay{3, 22}, []int{999_999_123, 999_999_218, 999_999_313, 999_999_408, 999_999_655, 999_999_750, 999_999_845, 999_999_940}},
		{api.Julian, span{api.MaxYear - 999, api.MaxYear}, monthDay{4, 25}, []int{999_999_191, 999_999_286, 999_999_381, 999_999_476, 999_999_723, 999_999_818, 999_999_913}},
		// A year with Easter on the day as the first one and the last one, and beside
		// the range.
		{api.Gregorian, span{1598, 1818}, monthDay{3, 22}, []int{1598, 1693, 1761, 1818}},
		{api.Gregorian, span{1599, 1817}, monthDay{3, 22}, []int{1693, 1761}},
		{api.Gregorian, span{1819, 2284}, monthDay{3, 22}, nil},
		{api.Gregorian, span{1819, 2285}, monthDay{3, 22}, []int{2285}},
		// Ranges of one year.
		{api.Gregorian, span{2024, 2024}, monthDay{3, 31}, []int{2024}},
		{api.Gregorian, span{2024, 2024}, monthDay{3, 30}, nil},
		{api.Gregorian, span{2024, 2024}, monthDay{4, 1}, nil},
		{api.Gregorian, span{2024, 2024}, monthDay{4, 22}, nil},
		{api.Julian, span{2024, 2024}, monthDay{4, 22}, []int{2024}},
		{api.Julian, span{2024, 2024}, monthDay{3, 31}, nil},
		{api.Julian, span{api.MinYear, api.MinYear}, monthDay{3, 27}, []int{api.MinYear}},
		{api.Gregorian, span{api.FirstGregorian, api.FirstGregorian}, monthDay{4, 10}, []int{api.FirstGregorian}},
		{api.Julian, span{api.MaxYear, api.MaxYear}, monthDay{4, 21}, []int{api.MaxYear}},
		{api.Gregorian, span{api.MaxYear, api.MaxYear}, monthDay{4, 2}, []int{api.MaxYear}},
		// The same day of the month in the other month.
		{api.Gregorian, span{2000, 2000}, monthDay{4, 23}, []int{2000}},
		{api.Gregorian, span{2000, 2000}, monthDay{3, 23}, nil},
		{api.Gregorian, span{2008, 2008}, monthDay{3, 23}, []int{2008}},
		{api.Gregorian, span{2008, 2008}, monthDay{4, 23}, nil},
	} {
		got, errno := cycle.Years(x.calendar, x.s.first, x.s.last, x.d.month, x.d.day)
		if !slices.Equal(got, x.want) || errno != api.OK {
			t.Errorf("Years(%d, %v, %v) = %v, %d, want %v", x.calendar, x.s, x.d, got, errno, x.want)
		}
	}
}

// P14.2, P14.4: ranges of all lengths to 10,000 years at both ends of the
// calendars. The years of the days are, together, all years of the range, as the
// tables have them, and the histogram counts them.
func TestRangesByTheTables(t *testing.T) {
	for _, calendar := range both() {
		for _, s := range spans(calendar) {
			want := map[monthDay][]int{}
			for i, d := range easters(calendar, s) {
				want[d] = append(want[d], s.first+i)
			}
			counts, errno := cycle.Histogram(calendar, s.first, s.last)
			if errno != api.OK {
				t.Errorf("Histogram(%d, %v) has the error %d", calendar, s, errno)
			}
			for i, d := range easterDays() {
				got, errno := cycle.Years(calendar, s.first, s.last, d.month, d.day)
				if !slices.Equal(got, want[d]) || errno != api.OK {
					t.Errorf("Years(%d, %v, %v) has %d years and the error %d, want %d years", calendar, s, d, len(got), errno, len(want[d]))
				}
				if counts[i] != len(want[d]) {
					t.Errorf("Histogram(%d, %v)[%d] = %d, want %d", calendar, s, i, counts[i], len(want[d]))
				}
			}
		}
	}
}

// P14.2: there are no years if Easter is never on the day, which is not an error.
func TestYearsOfDaysWithoutEaster(t *testing.T) {
	for _, calendar := range both() {
		first := firstYear(calendar)
		for _, s := range []span{{first, first}, {2000, 2531}, {first, first + mostYears - 1}, {api.MaxYear - 600, api.MaxYear}} {
			for _, d := range noDays() {
				if got, errno := cycle.Years(calendar, s.first, s.last, d.month, d.day); len(got) != 0 || errno != api.OK {
					t.Errorf("Years(%d, %v, %v) = %v, %d, want none and OK", calendar, s, d, got, errno)
				}
			}
		}
	}
}

// P14.2: a change of a result does not change a later one.
func TestYearsAreNotShared(t *testing.T) {
	first, _ := cycle.Years(api.Gregorian, 1583, 2200, 3, 22)
	first = append(first[:2], 0, 0, 0)
	clear(first[:cap(first)])
	second, _ := cycle.Years(api.Gregorian, 1583, 2200, 3, 22)
	if want := []int{1598, 1693, 1761, 1818}; !slices.Equal(second, want) {
		t.Errorf("Years = %v, want %v", second, want)
	}
}

// P14.3: the example of the chapter, and known years: from a year that has
// Easter on the day itself, and from the year after it.
func TestNextOfKnownDays(t *testing.T) {
	for _, x := range []struct {
		calendar, year int
		d              monthDay
		want           int
	}{
		{api.Gregorian, 2000, monthDay{3, 22}, 2285},
		{api.Gregorian, 1583, monthDay{3, 22}, 1598},
		{api.Gregorian, 1598, monthDay{3, 22}, 1598},
		{api.Gregorian, 1599, monthDay{3, 22}, 1693},
		{api.Gregorian, 1818, monthDay{3, 22}, 1818},
		{api.Gregorian, 1819, monthDay{3, 22}, 2285},
		{api.Gregorian, 2285, monthDay{3, 22}, 2285},
		{api.Gregorian, 2286, monthDay{3, 22}, 2353},
		{api.Gregorian, 2000, monthDay{4, 25}, 2038},
		{api.Gregorian, 2038, monthDay{4, 25}, 2038},
		{api.Gregorian, 2039, monthDay{4, 25}, 2190},
		{api.Gregorian, api.FirstGregorian, monthDay{4, 10}, api.FirstGregorian},
		{api.Gregorian, api.FirstGregorian + 1, monthDay{4, 10}, 1594},
		{api.Gregorian, 2000, monthDay{4, 23}, 2000},
		{api.Gregorian, 2001, monthDay{4, 23}, 2079},
		{api.Gregorian, 2024, monthDay{3, 31}, 2024},
		{api.Gregorian, 2025, monthDay{3, 31}, 2086},
		{api.Gregorian, 2025, monthDay{4, 1}, 2029},
		// The years that are followed by the longest gaps of the calendar.
		{api.Gregorian, 171_812, monthDay{3, 22}, 171_812},
		{api.Gregorian, 171_813, monthDay{3, 22}, 173_699},
		{api.Gregorian, 106_804, monthDay{4, 25}, 106_804},
		{api.Gregorian, 106_805, monthDay{4, 25}, 108_455},
		{api.Julian, api.MinYear, monthDay{3, 27}, api.MinYear},
		{api.Julian, api.MinYear + 1, monthDay{3, 27}, 12},
		{api.Julian, api.MinYear, monthDay{3, 22}, 72},
		{api.Julian, 72, monthDay{3, 22}, 72},
		{api.Julian, 73, monthDay{3, 22}, 319},
		{api.Julian, api.MinYear, monthDay{4, 25}, 45},
		{api.Julian, 140, monthDay{4, 25}, 140},
		{api.Julian, 141, monthDay{4, 25}, 387},
		{api.Julian, 2000, monthDay{3, 22}, 2010},
		{api.Julian, 2000, monthDay{4, 25}, 2078},
		{api.Julian, 2024, monthDay{4, 22}, 2024},
		{api.Julian, 2025, monthDay{4, 22}, 2097},
	} {
		if got := pack(cycle.Next(x.calendar, x.year, x.d.month, x.d.day)); got != some(x.want) {
			t.Errorf("Next(%d, %d, %v) = %v, want %d", x.calendar, x.year, x.d, got, x.want)
		}
	}
}

// checkNext fails the test unless Next returns, for every year of a range and
// every day on which Easter may be, the least year of the range from that year
// on; or ErrArg if there is none.
func checkNext(t *testing.T, calendar int, s span, days []monthDay) {
	t.Helper()
	next := map[monthDay]int{}
	for year := s.last; year >= s.first; year-- {
		next[days[year-s.first]] = year
		for _, d := range easterDays() {
			want := none(api.ErrArg)
			if n, ok := next[d]; ok {
				want = some(n)
			}
			if got := pack(cycle.Next(calendar, year, d.month, d.day)); got != want {
				t.Errorf("Next(%d, %d, %v) = %v, want %v", calendar, year, d, got, want)
			}
		}
	}
}

// P14.3: near MaxYear, fewer years are left. There is no such year if it would
// be after MaxYear.
func TestNextNearTheLastYear(t *testing.T) {
	for _, calendar := range both() {
		s := span{api.MaxYear - 999, api.MaxYear}
		checkNext(t, calendar, s, easters(calendar, s))
	}
}

// P14.3: from all years of two centuries.
func TestNextByTheTables(t *testing.T) {
	for _, calendar := range both() {
		s := span{1900, 3099}
		days := easters(calendar, s)
		next := map[monthDay]int{}
		for year := s.last; year >= s.first; year-- {
			d := days[year-s.first]
			next[d] = year
			if year > 2099 {
				continue
			}
			for d, want := range next {
				if got := pack(cycle.Next(calendar, year, d.month, d.day)); got != some(want) {
					t.Errorf("Next(%d, %d, %v) = %v, want %d", calendar, year, d, got, want)
				}
			}
		}
	}
}

// P14.3: the last years of the calendars that have Easter on each day, as years
// before MaxYear, and the year after each of them, from which there is none.
func TestNextOfTheLastYears(t *testing.T) {
	for calendar, before := range map[int][35]int{
		api.Julian: {
			60, 128, 22, 6, 52, 36, 3, 9, 44, 28, 12, 1, 47, 20, 4, 72, 56, 23, 7, 2,
			48, 32, 10, 5, 40, 24, 8, 76, 43, 16, 0, 68, 57, 19, 87,
		},
		api.Gregorian: {
			13, 70, 32, 16, 5, 51, 24, 8, 76, 54, 27, 0, 68, 52, 30, 3, 9, 44, 28, 6,
			1, 47, 20, 4, 72, 50, 23, 7, 2, 48, 26, 10, 67, 40, 317,
		},
	} {
		for i, d := range easterDays() {
			last := api.MaxYear - before[i]
			if got := pack(cycle.Next(calendar, last, d.month, d.day)); got != some(last) {
				t.Errorf("Next(%d, %d, %v) = %v, want the year itself", calendar, last, d, got)
			}
			for year := last + 1; year <= api.MaxYear; year++ {
				if got := pack(cycle.Next(calendar, year, d.month, d.day)); got != none(api.ErrArg) {
					t.Errorf("Next(%d, %d, %v) = %v, want 0 and ErrArg", calendar, year, d, got)
				}
			}
			if got := pack(cycle.Next(calendar, api.MaxYear+1, d.month, d.day)); got != none(api.ErrRange) {
				t.Errorf("Next(%d, MaxYear+1, %v) = %v, want 0 and ErrRange", calendar, d, got)
			}
		}
	}
}

// P14.3: there is no next year if Easter is never on the day.
func TestNextOfDaysWithoutEaster(t *testing.T) {
	for _, calendar := range both() {
		first := firstYear(calendar)
		for _, year := range []int{first, first + 1, 2000, 171_813, api.MaxYear - 10_000, api.MaxYear - 9999, api.MaxYear - 9998, api.MaxYear - 1, api.MaxYear} {
			for _, d := range noDays() {
				if got := pack(cycle.Next(calendar, year, d.month, d.day)); got != none(api.ErrArg) {
					t.Errorf("Next(%d, %d, %v) = %v, want 0 and ErrArg", calendar, year, d, got)
				}
			}
		}
	}
}

// P14.3: years that the calendar does not have, with days on which Easter is and
// with such on which it is never, as ErrRange is before ErrArg of the day.
func TestNextOfYearsOutOfRange(t *testing.T) {
	for _, calendar := range both() {
		for _, year := range noYears(calendar) {
			for _, d := range []monthDay{{3, 22}, {4, 10}, {4, 16}, {4, 25}, {3, 21}, {4, 26}, {0, 0}, {least, most}} {
				if got := pack(cycle.Next(calendar, year, d.month, d.day)); got != none(api.ErrRange) {
					t.Errorf("Next(%d, %d, %v) = %v, want 0 and ErrRange", calendar, year, d, got)
				}
			}
		}
	}
}

// P14.3: the first years are accepted, and the years before them are not.
func TestNextOfTheFirstYears(t *testing.T) {
	for _, calendar := range both() {
		first := firstYear(calendar)
		if got := pack(cycle.Next(calendar, first-1, 4, 10)); got != none(api.ErrRange) {
			t.Errorf("Next(%d, %d, 4, 10) = %v, want 0 and ErrRange", calendar, first-1, got)
		}
		for year := first; year < first+100; year++ {
			if got := pack(cycle.Next(calendar, year, 4, 10)); got.errno != api.OK || got.n < year {
				t.Errorf("Next(%d, %d, 4, 10) = %v", calendar, year, got)
			}
		}
	}
}

// longestGaps returns the most years from a year that has Easter on each day to
// the next one that has, by the method of Gauss, over a period and a half.
func longestGaps(calendar, period int) [35]int {
	var gaps, before [35]int
	first := firstYear(calendar)
	for year := first; year < first+period+period/2; year++ {
		d, _ := gauss.Date(calendar, year)
		i := dayOf(monthDay{d.Month, d.Day})
		if before[i] != 0 {
			gaps[i] = max(gaps[i], year-before[i])
		}
		before[i] = year
	}
	return gaps
}

// P14.3: no gap of a whole period is longer than 1887 years, so that no next
// year is 9,999 or more years later, and only MaxYear ends the search for one.
func TestNoGapIsLongerThanTheSearch(t *testing.T) {
	for calendar, want := range map[int][35]int{
		api.Julian: {
			247, 163, 163, 84, 79, 79, 79, 79, 79, 79, 79, 79, 79, 79, 79, 79, 79, 79, 79, 79,
			79, 79, 79, 79, 79, 79, 79, 79, 79, 79, 84, 84, 163, 163, 247,
		},
		api.Gregorian: {
			1887, 1363, 755, 383, 152, 141, 147, 119, 147, 147, 119, 147, 119, 147, 119, 147, 147, 119, 147, 119,
			147, 119, 147, 147, 119, 147, 119, 147, 79, 147, 152, 152, 451, 687, 1651,
		},
	} {
		period, _ := cycle.Period(calendar)
		if got := longestGaps(calendar, period); got != want {
			t.Errorf("the longest gaps of calendar %d are %v, want %v", calendar, got, want)
		}
	}
}

// P14.4: a year counts for the day of its Easter: index 0 for 22 March, index 9
// for 31 March, index 10 for 1 April, and index 34 for 25 April.
func TestHistogramOfOneYear(t *testing.T) {
	for _, x := range []struct{ calendar, year, index int }{
		{api.Gregorian, 1598, 0}, {api.Gregorian, 1818, 0}, {api.Gregorian, 2008, 1}, {api.Gregorian, 2024, 9}, {api.Gregorian, 2018, 10},
		{api.Gregorian, 2000, 32}, {api.Gregorian, 2011, 33}, {api.Gregorian, 2038, 34}, {api.Gregorian, 1943, 34},
		{api.Gregorian, 1981, 28}, {api.Gregorian, 1954, 27},
		{api.Gregorian, api.FirstGregorian, 19}, {api.Gregorian, api.MaxYear, 11},
		{api.Julian, 72, 0}, {api.Julian, 4, 1}, {api.Julian, 1510, 9}, {api.Julian, 1526, 10}, {api.Julian, 2000, 26}, {api.Julian, 2024, 31}, {api.Julian, 45, 34},
		{api.Julian, api.MinYear, 5}, {api.Julian, api.MaxYear, 30},
	} {
		var want [35]int
		want[x.index] = 1
		if got := packCounts(cycle.Histogram(x.calendar, x.year, x.year)); got != (counted{want, api.OK}) {
			t.Errorf("Histogram(%d, %d, %d) = %v, want 1 at %d", x.calendar, x.year, x.year, got, x.index)
		}
	}
}

// julianPeriodCounts returns the histogram of a period of the Julian calendar.
func julianPeriodCounts() [35]int {
	return [35]int{
		4, 8, 8, 12, 16, 16, 20, 16, 16, 20, 16, 16, 20, 16, 20, 20, 16, 20, 16, 16,
		20, 16, 16, 20, 16, 20, 16, 16, 20, 16, 12, 12, 8, 8, 4,
	}
}

// gregorianPeriodCounts returns the histogram of a period of the Gregorian
// calendar.
func gregorianPeriodCounts() [35]int {
	return [35]int{
		27_550, 54_150, 81_225, 110_200, 133_000, 165_300, 186_200, 192_850, 189_525, 189_525, 192_850, 186_200,
		192_850, 186_200, 192_850, 189_525, 189_525, 192_850, 186_200, 192_850, 186_200, 192_850, 189_525, 189_525,
		192_850, 186_200, 192_850, 197_400, 220_400, 189_525, 162_450, 137_750, 106_400, 82_650, 42_000,
	}
}

// P14.4: histograms of known ranges, the longest ones at both ends among them.
func TestHistogramOfKnownRanges(t *testing.T) {
	for _, x := range []struct {
		calendar int
		s        span
		want     [35]int
	}{
		{api.Julian, span{1, 532}, julianPeriodCounts()},
		{api.Julian, span{api.MaxYear - 531, api.MaxYear}, julianPeriodCounts()},
		{api.Julian, span{1, 10_000}, [35]int{
			75, 150, 152, 226, 299, 301, 377, 302, 300, 374, 301, 302, 375, 301, 376, 376, 300, 377, 302, 301,
			373, 301, 302, 377, 300, 375, 301, 302, 374, 301, 225, 225, 151, 151, 75,
		}},
		{api.Julian, span{api.MaxYear - 9999, api.MaxYear}, [35]int{
			76, 151, 150, 224, 302, 302, 376, 298, 301, 377, 302, 300, 375, 301, 377, 374, 301, 376, 300, 300,
			377, 302, 301, 374, 301, 377, 302, 300, 375, 301, 227, 225, 150, 150, 75,
		}},
		{api.Gregorian, span{1583, 2582}, [35]int{
			8, 11, 5, 22, 32, 27, 27, 28, 34, 43, 34, 28, 31, 32, 44, 38, 28, 28, 27, 39,
			41, 31, 29, 30, 35, 45, 36, 30, 34, 30, 37, 26, 8, 12, 10,
		}},
		{api.Gregorian, span{1900, 2199}, [35]int{
			0, 3, 1, 6, 9, 7, 7, 10, 11, 13, 11, 6, 10, 11, 11, 11, 8, 7, 10, 11,
			12, 12, 7, 10, 12, 12, 12, 9, 10, 11, 11, 8, 5, 3, 3,
		}},
		{api.Gregorian, span{1583, 11_582}, [35]int{
			47, 88, 140, 211, 235, 272, 321, 348, 344, 334, 320, 317, 348, 340, 344, 322, 319, 342, 337, 348,
			325, 325, 326, 341, 348, 333, 323, 336, 386, 345, 291, 229, 178, 159, 78,
		}},
		{api.Gregorian, span{api.MaxYear - 9999, api.MaxYear}, [35]int{
			46, 90, 156, 203, 219, 279, 339, 345, 335, 321, 329, 334, 348, 334, 336, 320, 332, 346, 337, 342,
			313, 330, 342, 345, 345, 314, 324, 346, 393, 338, 271, 227, 196, 157, 68,
		}},
	} {
		if got := packCounts(cycle.Histogram(x.calendar, x.s.first, x.s.last)); got != (counted{x.want, api.OK}) {
			t.Errorf("Histogram(%d, %v) = %v, want %v", x.calendar, x.s, got, x.want)
		}
	}
}

// P14.4: the earliest Easter of known ranges, which often is that of several
// years, of which the first one counts.
func TestEarliestOfKnownRanges(t *testing.T) {
	for _, x := range []struct {
		calendar int
		s        span
		want     int
	}{
		{api.Gregorian, span{1583, 2200}, 1598},
		{api.Gregorian, span{1583, 1600}, 1598},
		{api.Gregorian, span{1598, 1818}, 1598},
		{api.Gregorian, span{1599, 1818}, 1693},
		{api.Gregorian, span{1600, 1700}, 1693},
		{api.Gregorian, span{1599, 1692}, 1636},
		{api.Gregorian, span{1819, 2284}, 1845},
		{api.Gregorian, span{1819, 2285}, 2285},
		{api.Gregorian, span{1846, 2284}, 1856},
		{api.Gregorian, span{1900, 1999}, 1913},
		{api.Gregorian, span{2000, 2099}, 2008},
		{api.Gregorian, span{2009, 2159}, 2035},
		{api.Gregorian, span{1583, 11_582}, 1598},
		{api.Gregorian, span{api.MaxYear - 9999, api.MaxYear}, 999_990_076},
		{api.Gregorian, span{api.MaxYear - 99, api.MaxYear}, 999_999_987},
		{api.Julian, span{1, 532}, 72},
		{api.Julian, span{1, 20}, 4},
		{api.Julian, span{1, 99}, 72},
		{api.Julian, span{100, 200}, 167},
		{api.Julian, span{1900, 1999}, 1915},
		{api.Julian, span{1, 10_000}, 72},
		{api.Julian, span{api.MaxYear - 9999, api.MaxYear}, 999_990_079},
		{api.Julian, span{api.MaxYear - 99, api.MaxYear}, 999_999_940},
		// The first year, the last year, and the only one.
		{api.Gregorian, span{2024, 2025}, 2024}, {api.Gregorian, span{2025, 2026}, 2026}, {api.Gregorian, span{1913, 2007}, 1913},
		{api.Gregorian, span{1583, 1583}, 1583}, {api.Gregorian, span{1913, 1913}, 1913}, {api.Gregorian, span{2038, 2038}, 2038}, {api.Gregorian, span{api.MaxYear, api.MaxYear}, api.MaxYear},
		{api.Julian, span{1, 1}, 1}, {api.Julian, span{1, 2}, 1}, {api.Julian, span{45, 45}, 45}, {api.Julian, span{api.MaxYear, api.MaxYear}, api.MaxYear},
		// A day of March is earlier than a lower one of April.
		{api.Gregorian, span{2018, 2024}, 2024}, {api.Gregorian, span{2023, 2024}, 2024}, {api.Gregorian, span{2024, 2026}, 2024}, {api.Gregorian, span{2024, 2029}, 2027},
	} {
		if got := pack(cycle.Earliest(x.calendar, x.s.first, x.s.last)); got != some(x.want) {
			t.Errorf("Earliest(%d, %v) = %v, want %d", x.calendar, x.s, got, x.want)
		}
	}
}

// P14.4: the earliest Easter of ranges that begin in each year of some centuries,
// by the tables.
func TestEarliestByTheTables(t *testing.T) {
	for _, calendar := range both() {
		for _, first := range []int{firstYear(calendar), 2000, 123_456_789, api.MaxYear - 399} {
			all := span{first, first + 399}
			days := easters(calendar, all)
			for from := range 300 {
				for _, years := range []int{1, 2, 7, 19, 100} {
					earliest := from
					for i := from; i < from+years; i++ {
						if dayOf(days[i]) < dayOf(days[earliest]) {
							earliest = i
						}
					}
					s := span{first + from, first + from + years - 1}
					if got := pack(cycle.Earliest(calendar, s.first, s.last)); got != some(first+earliest) {
						t.Errorf("Earliest(%d, %v) = %v, want %d", calendar, s, got, first+earliest)
					}
				}
			}
		}
	}
}

// P14.2, P14.4: the earliest year is the first one of the days of the histogram.
func TestEarliestIsTheFirstOfItsDay(t *testing.T) {
	for _, calendar := range both() {
		for _, s := range spans(calendar) {
			counts, _ := cycle.Histogram(calendar, s.first, s.last)
			i := slices.IndexFunc(counts[:], func(n int) bool { return n > 0 })
			d := easterDays()[i]
			years, _ := cycle.Years(calendar, s.first, s.last, d.month, d.day)
			if got := pack(cycle.Earliest(calendar, s.first, s.last)); got != some(years[0]) {
				t.Errorf("Earliest(%d, %v) = %v, want the first of %v", calendar, s, got, years)
			}
		}
	}
}

func sum(counts [35]int) int {
	n := 0
	for _, count := range counts {
		n += count
	}
	return n
}

// P14.5: the numbers of a histogram add up to the number of years.
func TestHistogramAddsUp(t *testing.T) {
	for _, calendar := range both() {
		for _, s := range spans(calendar) {
			counts, errno := cycle.Histogram(calendar, s.first, s.last)
			if got, want := sum(counts), s.last-s.first+1; got != want || errno != api.OK {
				t.Errorf("Histogram(%d, %v) adds up to %d, %d, want %d", calendar, s, got, errno, want)
			}
		}
	}
}

// P14.5: Easter recurs on the same month and day after a period, and after many.
func TestEasterRecurs(t *testing.T) {
	for _, calendar := range both() {
		period, _ := cycle.Period(calendar)
		first := firstYear(calendar)
		for _, periods := range []int{1, 2, 7, (api.MaxYear - first - 2000) / period} {
			for year := first; year < first+2000; year++ {
				d, _ := easter.Date(calendar, year)
				later := year + periods*period
				if got := pack(cycle.Next(calendar, later, d.Month, d.Day)); got != some(later) {
					t.Errorf("Next(%d, %d, %v) = %v, want the year itself, which is %d periods later", calendar, later, d, got, periods)
				}
			}
		}
	}
}

// P14.5: histograms, years of a day and the earliest year recur after a period.
func TestRangesRecur(t *testing.T) {
	for _, calendar := range both() {
		period, _ := cycle.Period(calendar)
		for _, s := range spans(calendar) {
			later := span{s.first + period, s.last + period}
			if later.last > api.MaxYear {
				later = span{s.first - period, s.last - period}
			}
			want := packCounts(cycle.Histogram(calendar, s.first, s.last))
			if got := packCounts(cycle.Histogram(calendar, later.first, later.last)); got != want || got.errno != api.OK {
				t.Errorf("Histogram(%d, %v) = %v, want that of %v, %v", calendar, later, got, s, want)
			}
			earliest, _ := cycle.Earliest(calendar, s.first, s.last)
			if got := pack(cycle.Earliest(calendar, later.first, later.last)); got != some(earliest-s.first+later.first) {
				t.Errorf("Earliest(%d, %v) = %v, but that of %v is %d", calendar, later, got, s, earliest)
			}
			years, _ := cycle.Years(calendar, s.first, s.last, 4, 10)
			got, _ := cycle.Years(calendar, later.first, later.last, 4, 10)
			for i := range years {
				years[i] += later.first - s.first
			}
			if !slices.Equal(got, years) {
				t.Errorf("Years(%d, %v, 4, 10) = %v, want %v", calendar, later, got, years)
			}
		}
	}
}

// P14.5: a period has the same histogram wherever it begins.
func TestHistogramOfAPeriod(t *testing.T) {
	for _, first := range []int{1, 2, 325, 1583, 2000, 1_000_000, api.MaxYear - 532, api.MaxYear - 531} {
		if got := packCounts(cycle.Histogram(api.Julian, first, first+julianPeriod-1)); got != (counted{julianPeriodCounts(), api.OK}) {
			t.Errorf("Histogram(Julian, %d, %d) = %v", first, first+julianPeriod-1, got)
		}
	}
	for _, first := range []int{api.FirstGregorian, api.MaxYear - gregorianPeriod + 1} {
		var total [35]int
		for start := first; start < first+gregorianPeriod; start += mostYears {
			counts, errno := cycle.Histogram(api.Gregorian, start, start+mostYears-1)
			if errno != api.OK {
				t.Fatalf("Histogram(Gregorian, %d, %d) has the error %d", start, start+mostYears-1, errno)
			}
			for i, n := range counts {
				total[i] += n
			}
		}
		if total != gregorianPeriodCounts() {
			t.Errorf("the histogram of the period from %d on is %v", first, total)
		}
	}
}
