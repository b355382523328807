package gregorian_test

import (
	"cmp"
	"math"
	"testing"

	"computus/api"
	"computus/gregorian"
	"computus/julian"
)

const (
	least = math.MinInt
	most  = math.MaxInt
	// lastNumber is the day number of 31 December of MaxYear.
	lastNumber = 365242500000
	// cycleDays is the number of days of 400 years.
	cycleDays = 146097
)

// number is what First and ToDay return.
type number struct {
	n     int
	errno api.Errno
}

func packNumber(n int, errno api.Errno) number { return number{n, errno} }

// dated is what FromDay returns.
type dated struct {
	d     api.Date
	errno api.Errno
}

func packDate(d api.Date, errno api.Errno) dated { return dated{d, errno} }

func date(year, month, day int) api.Date {
	return api.Date{Year: year, Month: month, Day: day}
}

// isLeap repeats the chapter's rule for years from MinYear on, by exceptions
// from the least to the most specific one.
func isLeap(year int) bool {
	switch {
	case year == year/400*400:
		return true
	case year == year/100*100:
		return false
	}
	return year == year/4*4
}

// monthLength repeats the list of the months of chapter 2.
func monthLength(leap bool, month int) int {
	february := 28
	if leap {
		february = 29
	}
	return []int{31, february, 31, 30, 31, 30, 31, 31, 30, 31, 30, 31}[month-1]
}

// next returns the date after d by the list of the months.
func next(d api.Date) api.Date {
	switch {
	case d.Day < monthLength(isLeap(d.Year), d.Month):
		return date(d.Year, d.Month, d.Day+1)
	case d.Month < 12:
		return date(d.Year, d.Month+1, 1)
	}
	return date(d.Year+1, 1, 1)
}

func compare(a, b api.Date) int {
	return cmp.Or(cmp.Compare(a.Year, b.Year), cmp.Compare(a.Month, b.Month), cmp.Compare(a.Day, b.Day))
}

// leapYears lists years that are divisible by 4, 100 and 400 or not, of both
// signs, and those near the ends of the integers: -2^63 leaves the remainder -8
// by 100 and -208 by 400, and 2^63 - 1 the remainders 7 and 207.
func leapYears() map[int]bool {
	return map[int]bool{
		1: false, 2: false, 3: false, 4: true, 5: false, 6: false, 7: false, 8: true,
		96: true, 99: false, 100: false, 101: false, 104: true, 200: false, 300: false, 396: true, 400: true, 401: false, 404: true,
		500: false, 600: false, 700: false, 800: true, 1000: false, 1200: true,
		1500: false, 1582: false, 1583: false, 1584: true, 1600: true, 1700: false, 1800: false, 1900: false,
		1996: true, 2000: true, 2004: true, 2023: false, 2024: true, 2100: false, 2200: false, 2300: false, 2400: true,
		0: true, -1: false, -2: false, -3: false, -4: true, -5: false, -8: true,
		-96: true, -99: false, -100: false, -101: false, -104: true, -200: false, -300: false, -400: true, -404: true, -500: false, -800: true,
		999999600: true, 999999900: false, 999999996: true, 999999999: false,
		1000000000: true, 1000000001: false, 1000000004: true, 1000000100: false, 1000000400: true,
		-1000000000: true, -1000000100: false, 1 << 32: true, 1<<32 + 4: false, 1<<32 + 104: false, 1<<32 + 304: true,
		least: true, least + 1: false, least + 2: false, least + 3: false, least + 4: true,
		least + 8: false, least + 108: false, least + 208: true, least + 308: false,
		most: false, most - 1: false, most - 2: false, most - 3: true,
		most - 7: false, most - 107: false, most - 207: true, most - 307: false,
	}
}

// P3.1: years by 4, by 100 and by 400, for every integer.
func TestLeap(t *testing.T) {
	for year, want := range leapYears() {
		if got := gregorian.Leap(year); got != want {
			t.Errorf("Leap(%d) = %v", year, got)
		}
	}
}

// P3.1: leap years recur after 400 years, and there are 97 of them in between.
func TestLeapRecurs(t *testing.T) {
	for start := -1200; start < 1200; start += 100 {
		count := 0
		for year := start; year < start+400; year++ {
			if gregorian.Leap(year) {
				count++
			}
			if gregorian.Leap(year) != gregorian.Leap(year+400) {
				t.Errorf("Leap(%d) and Leap(%d) differ", year, year+400)
			}
		}
		if count != 97 {
			t.Errorf("%d leap years from %d to %d", count, start, start+399)
		}
	}
}

// P3.1: all months of common and leap years, also of years without valid dates.
func TestLength(t *testing.T) {
	for year, leap := range leapYears() {
		for month := 1; month <= 12; month++ {
			if got, want := gregorian.Length(year, month), monthLength(leap, month); got != want {
				t.Errorf("Length(%d, %d) = %d, want %d", year, month, got, want)
			}
		}
	}
}

// P3.1: months outside 1 to 12.
func TestLengthOfNoMonth(t *testing.T) {
	for _, year := range []int{2023, 2024, 1900, 2000, 0, -4, least, most} {
		for _, month := range []int{0, 13, -1, -2, -12, 14, 24, 1 << 32, 1<<32 + 1, 1<<32 + 2, least, least + 2, most} {
			if got := gregorian.Length(year, month); got != 0 {
				t.Errorf("Length(%d, %d) = %d, want 0", year, month, got)
			}
		}
	}
}

// yearFaults lists dates whose year is out of range, also with months and days
// that do not exist.
func yearFaults() []api.Date {
	return []api.Date{
		{},
		date(0, 1, 1), date(0, 12, 31), date(0, 2, 29), date(-1, 1, 1), date(-4, 2, 29), date(-400, 2, 29),
		date(1000000001, 1, 1), date(1000000004, 2, 29), date(1000000400, 2, 29),
		date(1<<32+1, 1, 1), date(1<<32+2024, 3, 31), date(least, 1, 1), date(most, 12, 31),
		// Both errors apply.
		date(0, 13, 1), date(0, 1, 32), date(0, 0, 1), date(0, 1, 0), date(-1, 2, 30), date(-4, 13, 50),
		date(1000000001, 0, 1), date(1000000001, 2, 29), date(1000000100, 2, 29),
		date(most, most, most), date(least, least, least), date(most, least, 1), date(least, 1, most),
	}
}

// dayFaults lists dates whose year is in range, but which are not valid.
func dayFaults() []api.Date {
	return []api.Date{
		date(1, 0, 1), date(1, 13, 1), date(1, -1, 1), date(1, 1, 0), date(1, 1, -1), date(1, 1, 32), date(1, 2, 29),
		date(3, 2, 29), date(4, 2, 30), date(100, 2, 29), date(200, 2, 29), date(300, 2, 29), date(400, 2, 30),
		date(1500, 2, 29), date(1600, 2, 30), date(1700, 2, 29), date(1900, 2, 29), date(2000, 2, 30), date(2100, 2, 29),
		date(2023, 2, 29), date(2024, 2, 30), date(2024, 4, 31), date(2024, 6, 31), date(2024, 9, 31), date(2024, 11, 31),
		date(2024, 12, 32), date(2024, 12, 0), date(2024, 0, 0), date(2024, 13, 1), date(2024, 13, 32),
		date(2024, least, 1), date(2024, most, 1), date(2024, 1, least), date(2024, 1, most), date(2024, most, most),
		date(2024, 1<<32+1, 1), date(2024, 1, 1<<32+1),
		date(999999999, 2, 29), date(999999900, 2, 29), date(1000000000, 2, 30),
		date(1000000000, 0, 1), date(1000000000, 13, 1), date(1000000000, 12, 0), date(1000000000, 12, 32),
	}
}

// numbered lists valid dates with their numbers: the examples, the ends of
// months, of groups of 4, 100 and 400 years, and of the range.
func numbered() map[api.Date]int {
	return map[api.Date]int{
		date(1, 1, 1):            1,
		date(1, 1, 2):            2,
		date(1, 1, 31):           31,
		date(1, 2, 1):            32,
		date(1, 2, 28):           59,
		date(1, 3, 1):            60,
		date(1, 12, 31):          365,
		date(2, 1, 1):            366,
		date(3, 12, 31):          1095,
		date(4, 1, 1):            1096,
		date(4, 2, 28):           1154,
		date(4, 2, 29):           1155,
		date(4, 3, 1):            1156,
		date(4, 12, 30):          1460,
		date(4, 12, 31):          1461,
		date(5, 1, 1):            1462,
		date(96, 2, 29):          34758,
		date(96, 12, 31):         35064,
		date(97, 1, 1):           35065,
		date(100, 2, 28):         36218,
		date(100, 3, 1):          36219,
		date(100, 12, 31):        36524,
		date(101, 1, 1):          36525,
		date(200, 12, 31):        73048,
		date(201, 1, 1):          73049,
		date(300, 12, 31):        109572,
		date(301, 1, 1):          109573,
		date(396, 12, 31):        144636,
		date(397, 1, 1):          144637,
		date(400, 2, 29):         145791,
		date(400, 12, 30):        146096,
		date(400, 12, 31):        146097,
		date(401, 1, 1):          146098,
		date(800, 12, 31):        292194,
		date(801, 1, 1):          292195,
		date(1582, 10, 14):       577735,
		date(1582, 10, 15):       577736,
		date(1600, 2, 29):        584082,
		date(1600, 12, 31):       584388,
		date(1601, 1, 1):         584389,
		date(1700, 2, 28):        620606,
		date(1700, 3, 1):         620607,
		date(1900, 12, 31):       693960,
		date(1901, 1, 1):         693961,
		date(2000, 1, 1):         730120,
		date(2000, 2, 29):        730179,
		date(2000, 12, 31):       730485,
		date(2001, 1, 1):         730486,
		date(2024, 2, 29):        738945,
		date(2024, 3, 31):        738976,
		date(999999600, 12, 31):  365242353903,
		date(999999601, 1, 1):    365242353904,
		date(999999999, 12, 31):  365242499634,
		date(1000000000, 1, 1):   365242499635,
		date(1000000000, 2, 29):  365242499694,
		date(1000000000, 12, 30): lastNumber - 1,
		date(1000000000, 12, 31): lastNumber,
	}
}

// P3.1: dates at the ends of months and of the range, and just outside.
func TestValid(t *testing.T) {
	for d := range numbered() {
		if !gregorian.Valid(d) {
			t.Errorf("Valid(%v) = false", d)
		}
	}
	for _, d := range append(yearFaults(), dayFaults()...) {
		if gregorian.Valid(d) {
			t.Errorf("Valid(%v) = true", d)
		}
	}
}

// P3.1: every day of every month, in years of both lengths.
func TestValidDays(t *testing.T) {
	for _, year := range []int{1, 2, 3, 4, 100, 200, 400, 1582, 1600, 1700, 1900, 2000, 2023, 2024, 999999900, 999999999, 1000000000} {
		for month := -1; month <= 14; month++ {
			for day := -1; day <= 33; day++ {
				want := month >= 1 && month <= 12 && day >= 1 && day <= monthLength(isLeap(year), month)
				if got := gregorian.Valid(date(year, month, day)); got != want {
					t.Errorf("Valid(%d, %d, %d) = %v", year, month, day, got)
				}
			}
		}
	}
}

// P3.2: the first and last years, those after the ends of groups, and those
// just outside of the range.
func TestFirst(t *testing.T) {
	for _, x := range []struct {
		year int
		want number
	}{
		{1, number{1, api.OK}},
		{2, number{366, api.OK}},
		{3, number{731, api.OK}},
		{4, number{1096, api.OK}},
		{5, number{1462, api.OK}},
		{100, number{36160, api.OK}},
		{101, number{36525, api.OK}},
		{201, number{73049, api.OK}},
		{301, number{109573, api.OK}},
		{400, number{145732, api.OK}},
		{401, number{146098, api.OK}},
		{1583, number{577814, api.OK}},
		{1900, number{693596, api.OK}},
		{1901, number{693961, api.OK}},
		{2000, number{730120, api.OK}},
		{2001, number{730486, api.OK}},
		{999999999, number{365242499270, api.OK}},
		{1000000000, number{365242499635, api.OK}},
		{1000000001, number{0, api.ErrRange}},
		{1 << 32, number{0, api.ErrRange}},
		{1<<32 + 1, number{0, api.ErrRange}},
		{0, number{0, api.ErrRange}},
		{-1, number{0, api.ErrRange}},
		{-400, number{0, api.ErrRange}},
		{least, number{0, api.ErrRange}},
		{least + 1, number{0, api.ErrRange}},
		{most, number{0, api.ErrRange}},
	} {
		if got := packNumber(gregorian.First(x.year)); got != x.want {
			t.Errorf("First(%d) = %v, want %v", x.year, got, x.want)
		}
	}
}

// P3.2: each year begins after the days of the year before it.
func TestFirstFollows(t *testing.T) {
	due := 1
	for year := 1; year <= 10000; year++ {
		if got := packNumber(gregorian.First(year)); got != (number{due, api.OK}) {
			t.Fatalf("First(%d) = %v, want %d", year, got, due)
		}
		due += 365
		if isLeap(year) {
			due++
		}
	}
}

// P3.3: the examples, the ends of months, groups of years and the range.
func TestToDay(t *testing.T) {
	for d, n := range numbered() {
		if got := packNumber(gregorian.ToDay(d)); got != (number{n, api.OK}) {
			t.Errorf("ToDay(%v) = %v, want %d", d, got, n)
		}
	}
}

// P3.3: the first error, with the number 0.
func TestToDayErrors(t *testing.T) {
	for _, d := range yearFaults() {
		if got := packNumber(gregorian.ToDay(d)); got != (number{0, api.ErrRange}) {
			t.Errorf("ToDay(%v) = %v, want ErrRange", d, got)
		}
	}
	for _, d := range dayFaults() {
		if got := packNumber(gregorian.ToDay(d)); got != (number{0, api.ErrDate}) {
			t.Errorf("ToDay(%v) = %v, want ErrDate", d, got)
		}
	}
}

// P3.3: the same number is the same day as in the Julian calendar.
func TestSameDays(t *testing.T) {
	for old, d := range map[api.Date]api.Date{
		date(1, 1, 3):      date(1, 1, 1),
		date(200, 3, 1):    date(200, 3, 1),
		date(1582, 10, 5):  date(1582, 10, 15),
		date(1900, 2, 29):  date(1900, 3, 13),
		date(2024, 4, 22):  date(2024, 5, 5),
		date(2023, 12, 19): date(2024, 1, 1),
	} {
		n, errno := julian.ToDay(old)
		if errno != api.OK {
			t.Fatalf("Julian date %v: error %d", old, errno)
		}
		if got := packNumber(gregorian.ToDay(d)); got != (number{n, api.OK}) {
			t.Errorf("ToDay(%v) = %v, want %d as for the Julian date %v", d, got, n, old)
		}
	}
}

// P3.4: the examples, the ends of months, groups of years and the range.
func TestFromDay(t *testing.T) {
	for d, n := range numbered() {
		if got := packDate(gregorian.FromDay(n)); got != (dated{d, api.OK}) {
			t.Errorf("FromDay(%d) = %v, want %v", n, got, d)
		}
	}
}

// P3.4: numbers before the first and after the last valid date, with the zero date.
func TestFromDayErrors(t *testing.T) {
	for _, n := range []int{0, -1, -2, -365, -366, -cycleDays, -577736, lastNumber + 1, lastNumber + 2, lastNumber + 366, lastNumber + cycleDays, 2 * lastNumber, 1 << 62, -1 << 62, least, least + 1, most, most - 1} {
		if got := packDate(gregorian.FromDay(n)); got != (dated{api.Date{}, api.ErrRange}) {
			t.Errorf("FromDay(%d) = %v, want ErrRange", n, got)
		}
	}
}

// follow walks through days from d, which has the number n, and compares both
// directions at each step.
func follow(t *testing.T, d api.Date, n, days int) {
	for range days {
		if got := packNumber(gregorian.ToDay(d)); got != (number{n, api.OK}) {
			t.Fatalf("ToDay(%v) = %v, want %d", d, got, n)
		}
		if got := packDate(gregorian.FromDay(n)); got != (dated{d, api.OK}) {
			t.Fatalf("FromDay(%d) = %v, want %v", n, got, d)
		}
		d, n = next(d), n+1
	}
}

// P3.3, P3.4, P3.5: the first 2400 years and the last 800 years, day by day.
func TestDaysFollow(t *testing.T) {
	follow(t, date(1, 1, 1), 1, 6*cycleDays)
	follow(t, date(1000000000-799, 1, 1), lastNumber+1-2*cycleDays, 2*cycleDays)
}

// P3.4, P3.5: the days on both sides of the ends of groups of 4, 100 and 400
// years, in all parts of the range.
func TestEndsOfGroups(t *testing.T) {
	for cycle := 0; cycle < api.MaxYear/400; cycle += 24999 {
		for _, group := range []int{4, 96, 100, 104, 196, 200, 204, 296, 300, 304, 396, 400} {
			year := 400*cycle + group
			n := cycle*cycleDays + group*365 + group/4 - group/100 + group/400
			if got := packDate(gregorian.FromDay(n)); got != (dated{date(year, 12, 31), api.OK}) {
				t.Fatalf("FromDay(%d) = %v, want the end of %d", n, got, year)
			}
			if year == api.MaxYear {
				continue
			}
			if got := packDate(gregorian.FromDay(n + 1)); got != (dated{date(year+1, 1, 1), api.OK}) {
				t.Fatalf("FromDay(%d) = %v, want the start of %d", n+1, got, year+1)
			}
		}
	}
}

// samples returns dates from all parts of the range, in their order.
func samples() []api.Date {
	var l []api.Date
	for year := 1; year <= api.MaxYear; year += 999999 {
		for y := year; y < year+5 && y <= api.MaxYear; y++ {
			for month := 1; month <= 12; month++ {
				last := monthLength(isLeap(y), month)
				l = append(l, date(y, month, 1), date(y, month, 15), date(y, month, last))
			}
		}
	}
	return l
}

// P3.5: FromDay(ToDay(d)) is d for dates from all parts of the range.
func TestRoundTrip(t *testing.T) {
	for _, d := range samples() {
		n, errno := gregorian.ToDay(d)
		if errno != api.OK {
			t.Fatalf("ToDay(%v): error %d", d, errno)
		}
		if got := packDate(gregorian.FromDay(n)); got != (dated{d, api.OK}) {
			t.Fatalf("FromDay(ToDay(%v)) = %v", d, got)
		}
	}
}

// P3.5: numbers from all parts of the range have dates that lead back to them.
func TestRoundTripOfNumbers(t *testing.T) {
	for n := 1; n <= lastNumber; n += 1234567 {
		d, errno := gregorian.FromDay(n)
		if errno != api.OK || !gregorian.Valid(d) {
			t.Fatalf("FromDay(%d) = %v, error %d", n, d, errno)
		}
		if got := packNumber(gregorian.ToDay(d)); got != (number{n, api.OK}) {
			t.Fatalf("ToDay(FromDay(%d)) = %v", n, got)
		}
	}
}

// P3.5: the order of dates is that of their numbers.
func TestOrder(t *testing.T) {
	dates := samples()
	for i, a := range dates {
		for _, j := range []int{0, i - 37, i - 1, i, i + 1, i + 40, len(dates) - 1} {
			if j < 0 || j >= len(dates) {
				continue
			}
			b := dates[j]
			n, _ := gregorian.ToDay(a)
			m, _ := gregorian.ToDay(b)
			if cmp.Compare(n, m) != compare(a, b) {
				t.Fatalf("%v and %v have the numbers %d and %d", a, b, n, m)
			}
		}
	}
}

// P3.5: 400 years have 146,097 days, wherever they begin.
func TestCycle(t *testing.T) {
	for year := 1; year <= api.MaxYear-400; year += 1234567 {
		n, errno := gregorian.First(year)
		m, again := gregorian.First(year + 400)
		if errno != api.OK || again != api.OK || m-n != cycleDays {
			t.Fatalf("400 years from %d: numbers %d and %d", year, n, m)
		}
	}
	for _, d := range []api.Date{date(1, 1, 1), date(100, 2, 28), date(400, 2, 29), date(2024, 12, 31), date(999999600, 2, 29)} {
		n, _ := gregorian.ToDay(d)
		later := date(d.Year+400, d.Month, d.Day)
		if got := packNumber(gregorian.ToDay(later)); got != (number{n + cycleDays, api.OK}) {
			t.Errorf("ToDay(%v) = %v, want %d", later, got, n+cycleDays)
		}
	}
}
