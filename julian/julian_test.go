package julian_test

import (
	"cmp"
	"math"
	"testing"

	"computus/api"
	"computus/julian"
)

const (
	least = math.MinInt
	most  = math.MaxInt
	// lastNumber is the day number of 31 December of MaxYear.
	lastNumber = 365249999998
)

// number is what First and ToDay return.
type number struct {
	n     int
	errno api.Errno
}

func packNumber(n int, errno api.Errno) number { return number{n, errno} }

// dated is what FromDay returns.
type dated struct {
	d     api.Date
	errno api.Errno
}

func packDate(d api.Date, errno api.Errno) dated { return dated{d, errno} }

func date(year, month, day int) api.Date {
	return api.Date{Year: year, Month: month, Day: day}
}

// monthLength repeats the chapter's list of the months.
func monthLength(leap bool, month int) int {
	february := 28
	if leap {
		february = 29
	}
	return []int{31, february, 31, 30, 31, 30, 31, 31, 30, 31, 30, 31}[month-1]
}

// next returns the date after d by the chapter's list of the months.
func next(d api.Date) api.Date {
	leap := d.Year == d.Year/4*4
	switch {
	case d.Day < monthLength(leap, d.Month):
		return date(d.Year, d.Month, d.Day+1)
	case d.Month < 12:
		return date(d.Year, d.Month+1, 1)
	}
	return date(d.Year+1, 1, 1)
}

func compare(a, b api.Date) int {
	return cmp.Or(cmp.Compare(a.Year, b.Year), cmp.Compare(a.Month, b.Month), cmp.Compare(a.Day, b.Day))
}

// P2.1: years of all remainders and signs, centuries, and the ends of the integers.
func TestLeap(t *testing.T) {
	for _, x := range []struct {
		year int
		want bool
	}{
		{1, false}, {2, false}, {3, false}, {4, true}, {5, false}, {6, false}, {7, false}, {8, true},
		{100, true}, {400, true}, {1500, true}, {1582, false}, {1700, true}, {1900, true}, {2000, true}, {2023, false}, {2024, true},
		{0, true}, {-1, false}, {-2, false}, {-3, false}, {-4, true}, {-5, false}, {-8, true}, {-100, true},
		{999999999, false}, {1000000000, true}, {1000000001, false}, {1000000004, true},
		{least, true}, {least + 1, false}, {least + 2, false}, {least + 3, false}, {least + 4, true},
		{most, false}, {most - 1, false}, {most - 2, false}, {most - 3, true},
	} {
		if got := julian.Leap(x.year); got != x.want {
			t.Errorf("Leap(%d) = %v", x.year, got)
		}
	}
}

// P2.1: all months of common and leap years, also of years without valid dates.
func TestLength(t *testing.T) {
	for _, x := range []struct {
		year int
		leap bool
	}{
		{1, false}, {2, false}, {3, false}, {4, true}, {1582, false}, {1700, true}, {1900, true}, {2023, false}, {2024, true},
		{999999999, false}, {1000000000, true}, {1000000001, false}, {1000000004, true},
		{0, true}, {-1, false}, {-3, false}, {-4, true}, {least, true}, {least + 1, false}, {most, false}, {most - 3, true},
	} {
		for month := 1; month <= 12; month++ {
			if got, want := julian.Length(x.year, month), monthLength(x.leap, month); got != want {
				t.Errorf("Length(%d, %d) = %d, want %d", x.year, month, got, want)
			}
		}
	}
}

// P2.1: months outside 1 to 12.
func TestLengthOfNoMonth(t *testing.T) {
	for _, year := range []int{2023, 2024, 0, -4, least, most} {
		for _, month := range []int{0, 13, -1, -2, -12, 14, 24, 1 << 32, 1<<32 + 1, 1<<32 + 2, least, least + 2, most} {
			if got := julian.Length(year, month); got != 0 {
				t.Errorf("Length(%d, %d) = %d, want 0", year, month, got)
			}
		}
	}
}

// faults lists dates that are not valid, each with the first error of ToDay.
func faults() map[api.Date]api.Errno {
	return map[api.Date]api.Errno{
		{}:                      api.ErrRange,
		date(0, 1, 1):           api.ErrRange,
		date(0, 12, 31):         api.ErrRange,
		date(-1, 1, 1):          api.ErrRange,
		date(-4, 2, 29):         api.ErrRange,
		date(1000000001, 1, 1):  api.ErrRange,
		date(1000000004, 2, 29): api.ErrRange,
		date(least, 1, 1):       api.ErrRange,
		date(most, 12, 31):      api.ErrRange,
		date(1<<32+1, 1, 1):     api.ErrRange,
		// Both errors apply.
		date(0, 13, 1):            api.ErrRange,
		date(0, 1, 32):            api.ErrRange,
		date(0, 0, 0):             api.ErrRange,
		date(-1, 2, 30):           api.ErrRange,
		date(1000000001, 0, 1):    api.ErrRange,
		date(1000000001, 2, 29):   api.ErrRange,
		date(most, most, most):    api.ErrRange,
		date(least, least, least): api.ErrRange,
		date(1, 0, 1):             api.ErrDate,
		date(1, 13, 1):            api.ErrDate,
		date(1, -1, 1):            api.ErrDate,
		date(1, 1, 0):             api.ErrDate,
		date(1, 1, -1):            api.ErrDate,
		date(1, 1, 32):            api.ErrDate,
		date(1, 2, 29):            api.ErrDate,
		date(3, 2, 29):            api.ErrDate,
		date(4, 2, 30):            api.ErrDate,
		date(1900, 2, 30):         api.ErrDate,
		date(2023, 2, 29):         api.ErrDate,
		date(2024, 2, 30):         api.ErrDate,
		date(2024, 4, 31):         api.ErrDate,
		date(2024, 6, 31):         api.ErrDate,
		date(2024, 9, 31):         api.ErrDate,
		date(2024, 11, 31):        api.ErrDate,
		date(2024, 12, 32):        api.ErrDate,
		date(2024, 12, 0):         api.ErrDate,
		date(2024, least, 1):      api.ErrDate,
		date(2024, most, 1):       api.ErrDate,
		date(2024, 1, least):      api.ErrDate,
		date(2024, 1, most):       api.ErrDate,
		date(2024, 0, 0):          api.ErrDate,
		date(2024, 1<<32+1, 1):    api.ErrDate,
		date(2024, 1, 1<<32+1):    api.ErrDate,
		date(1000000000, 0, 1):    api.ErrDate,
		date(1000000000, 2, 30):   api.ErrDate,
		date(1000000000, 12, 32):  api.ErrDate,
		date(1000000000, 13, 1):   api.ErrDate,
		date(999999999, 2, 29):    api.ErrDate,
	}
}

// numbered lists valid dates with their numbers.
func numbered() map[api.Date]int {
	return map[api.Date]int{
		date(1, 1, 1):            -1,
		date(1, 1, 2):            0,
		date(1, 1, 3):            1,
		date(1, 1, 31):           29,
		date(1, 2, 1):            30,
		date(1, 2, 28):           57,
		date(1, 3, 1):            58,
		date(1, 12, 31):          363,
		date(2, 1, 1):            364,
		date(3, 12, 31):          1093,
		date(4, 1, 1):            1094,
		date(4, 2, 28):           1152,
		date(4, 2, 29):           1153,
		date(4, 3, 1):            1154,
		date(4, 12, 30):          1458,
		date(4, 12, 31):          1459,
		date(5, 1, 1):            1460,
		date(100, 2, 29):         36217,
		date(1582, 10, 4):        577735,
		date(1582, 10, 5):        577736,
		date(2024, 4, 22):        739011,
		date(1000000000, 1, 1):   365249999633,
		date(1000000000, 2, 29):  365249999692,
		date(1000000000, 12, 31): lastNumber,
	}
}

// P2.1: dates at the ends of months and of the range, and just outside.
func TestValid(t *testing.T) {
	for d := range numbered() {
		if !julian.Valid(d) {
			t.Errorf("Valid(%v) = false", d)
		}
	}
	for d := range faults() {
		if julian.Valid(d) {
			t.Errorf("Valid(%v) = true", d)
		}
	}
}

// P2.1: every day of every month, in years of both lengths.
func TestValidDays(t *testing.T) {
	for _, year := range []int{1, 2, 3, 4, 1582, 1600, 1700, 1900, 2023, 2024, 999999999, 1000000000} {
		for month := -1; month <= 14; month++ {
			for day := -1; day <= 33; day++ {
				leap := year == year/4*4
				want := month >= 1 && month <= 12 && day >= 1 && day <= monthLength(leap, month)
				if got := julian.Valid(date(year, month, day)); got != want {
					t.Errorf("Valid(%d, %d, %d) = %v", year, month, day, got)
				}
			}
		}
	}
}

// P2.2: the first and last years, and those just outside.
func TestFirst(t *testing.T) {
	for _, x := range []struct {
		year int
		want number
	}{
		{1, number{-1, api.OK}},
		{2, number{364, api.OK}},
		{3, number{729, api.OK}},
		{4, number{1094, api.OK}},
		{5, number{1460, api.OK}},
		{8, number{2555, api.OK}},
		{9, number{2921, api.OK}},
		{1900, number{693608, api.OK}},
		{1901, number{693974, api.OK}},
		{999999999, number{365249999268, api.OK}},
		{1000000000, number{365249999633, api.OK}},
		{1000000001, number{0, api.ErrRange}},
		{1 << 32, number{0, api.ErrRange}},
		{1<<32 + 1, number{0, api.ErrRange}},
		{0, number{0, api.ErrRange}},
		{-1, number{0, api.ErrRange}},
		{-4, number{0, api.ErrRange}},
		{least, number{0, api.ErrRange}},
		{least + 1, number{0, api.ErrRange}},
		{most, number{0, api.ErrRange}},
	} {
		if got := packNumber(julian.First(x.year)); got != x.want {
			t.Errorf("First(%d) = %v, want %v", x.year, got, x.want)
		}
	}
}

// P2.2: each year begins after the days of the year before it.
func TestFirstFollows(t *testing.T) {
	due := -1
	for year := 1; year <= 10000; year++ {
		if got := packNumber(julian.First(year)); got != (number{due, api.OK}) {
			t.Fatalf("First(%d) = %v, want %d", year, got, due)
		}
		due += 365
		if year == year/4*4 {
			due++
		}
	}
}

// P2.3: the examples, the ends of months and of the range.
func TestToDay(t *testing.T) {
	for d, n := range numbered() {
		if got := packNumber(julian.ToDay(d)); got != (number{n, api.OK}) {
			t.Errorf("ToDay(%v) = %v, want %d", d, got, n)
		}
	}
}

// P2.3: the first error, with the number 0.
func TestToDayErrors(t *testing.T) {
	for d, errno := range faults() {
		if got := packNumber(julian.ToDay(d)); got != (number{0, errno}) {
			t.Errorf("ToDay(%v) = %v, want error %d", d, got, errno)
		}
	}
}

// P2.4: the examples, the ends of months and of the range.
func TestFromDay(t *testing.T) {
	for d, n := range numbered() {
		if got := packDate(julian.FromDay(n)); got != (dated{d, api.OK}) {
			t.Errorf("FromDay(%d) = %v, want %v", n, got, d)
		}
	}
}

// P2.4: numbers before the first and after the last valid date, with the zero date.
func TestFromDayErrors(t *testing.T) {
	for _, n := range []int{-2, -3, -366, -367, -1463, -577735, lastNumber + 1, lastNumber + 2, lastNumber + 366, 2 * lastNumber, 1 << 62, -1 << 62, least, least + 1, most, most - 1} {
		if got := packDate(julian.FromDay(n)); got != (dated{api.Date{}, api.ErrRange}) {
			t.Errorf("FromDay(%d) = %v, want ErrRange", n, got)
		}
	}
}

// follow walks through days from d, which has the number n, and compares both
// directions at each step.
func follow(t *testing.T, d api.Date, n, days int) {
	for range days {
		if got := packNumber(julian.ToDay(d)); got != (number{n, api.OK}) {
			t.Fatalf("ToDay(%v) = %v, want %d", d, got, n)
		}
		if got := packDate(julian.FromDay(n)); got != (dated{d, api.OK}) {
			t.Fatalf("FromDay(%d) = %v, want %v", n, got, d)
		}
		d, n = next(d), n+1
	}
}

// P2.3, P2.4, P2.5: the first 2100 years and the last 101 years, day by day.
func TestDaysFollow(t *testing.T) {
	follow(t, date(1, 1, 1), -1, 2100*1461/4)
	follow(t, date(1000000000-100, 1, 1), lastNumber+1-36891, 36891)
}

// samples returns dates from all parts of the range, in their order.
func samples() []api.Date {
	var l []api.Date
	for year := 1; year <= api.MaxYear; year += 999999 {
		for y := year; y < year+5 && y <= api.MaxYear; y++ {
			for month := 1; month <= 12; month++ {
				last := monthLength(y == y/4*4, month)
				l = append(l, date(y, month, 1), date(y, month, 15), date(y, month, last))
			}
		}
	}
	return l
}

// P2.5: FromDay(ToDay(d)) is d for dates from all parts of the range.
func TestRoundTrip(t *testing.T) {
	for _, d := range samples() {
		n, errno := julian.ToDay(d)
		if errno != api.OK {
			t.Fatalf("ToDay(%v): error %d", d, errno)
		}
		if got := packDate(julian.FromDay(n)); got != (dated{d, api.OK}) {
			t.Fatalf("FromDay(ToDay(%v)) = %v", d, got)
		}
	}
}

// P2.5: numbers from all parts of the range have dates that lead back to them.
func TestRoundTripOfNumbers(t *testing.T) {
	for n := -1; n <= lastNumber; n += 1234567 {
		d, errno := julian.FromDay(n)
		if errno != api.OK || !julian.Valid(d) {
			t.Fatalf("FromDay(%d) = %v, error %d", n, d, errno)
		}
		if got := packNumber(julian.ToDay(d)); got != (number{n, api.OK}) {
			t.Fatalf("ToDay(FromDay(%d)) = %v", n, got)
		}
	}
}

// P2.5: the order of dates is that of their numbers.
func TestOrder(t *testing.T) {
	dates := samples()
	for i, a := range dates {
		for _, j := range []int{0, i - 37, i - 1, i, i + 1, i + 40, len(dates) - 1} {
			if j < 0 || j >= len(dates) {
				continue
			}
			b := dates[j]
			n, _ := julian.ToDay(a)
			m, _ := julian.ToDay(b)
			if cmp.Compare(n, m) != compare(a, b) {
				t.Fatalf("%v and %v have the numbers %d and %d", a, b, n, m)
			}
		}
	}
}
