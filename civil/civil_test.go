package civil_test

import (
	"math"
	"testing"

	"computus/api"
	"computus/civil"
	"computus/gregorian"
	"computus/julian"
	"computus/weekday"
)

const (
	least = math.MinInt
	most  = math.MaxInt
	// firstJulian and lastJulian are the day numbers of the first and the last
	// day of the Julian calendar, firstGregorian and lastGregorian those of the
	// Gregorian one.
	firstJulian    = -1
	lastJulian     = 365249999998
	firstGregorian = 1
	lastGregorian  = 365242500000
)

// number is what ToDay, OfYear, YearLength and Weekday return.
type number struct {
	n     int
	errno api.Errno
}

func packNumber(n int, errno api.Errno) number { return number{n, errno} }

func found(n int) number { return number{n, api.OK} }

func noNumber(errno api.Errno) number { return number{0, errno} }

// dated is what FromDay, Convert, FromYear and Shift return.
type dated struct {
	d     api.Date
	errno api.Errno
}

func packDate(d api.Date, errno api.Errno) dated { return dated{d, errno} }

func on(year, month, day int) dated { return dated{date(year, month, day), api.OK} }

func noDate(errno api.Errno) dated { return dated{api.Date{}, errno} }

func date(year, month, day int) api.Date {
	return api.Date{Year: year, Month: month, Day: day}
}

// both lists the calendars.
func both() []int { return []int{api.Julian, api.Gregorian} }

// noCalendars lists numbers that are not calendars.
func noCalendars() []int {
	return []int{0, 3, 4, -1, -2, -3, 1 << 32, 1<<32 + 1, 1<<32 + 2, -1 << 32, least, least + 1, least + 2, most, most - 1}
}

// noYears lists years outside of the range.
func noYears() []int {
	return []int{0, -1, -4, -400, api.MaxYear + 1, api.MaxYear + 4, 2 * api.MaxYear, 1<<32 + 2000, least, least + 1, most, most - 1}
}

// badDate is a date that no calendar has, with the error that belongs to it.
type badDate struct {
	d     api.Date
	errno api.Errno
}

// badDates lists invalid dates of a calendar.
func badDates(calendar int) []badDate {
	l := []badDate{
		{date(2023, 2, 29), api.ErrDate},
		{date(2024, 2, 30), api.ErrDate},
		{date(2024, 4, 31), api.ErrDate},
		{date(2024, 12, 32), api.ErrDate},
		{date(2024, 0, 1), api.ErrDate},
		{date(2024, 13, 1), api.ErrDate},
		{date(2024, -1, 1), api.ErrDate},
		{date(2024, 1, 0), api.ErrDate},
		{date(2024, 1, -1), api.ErrDate},
		{date(2024, least, 1), api.ErrDate},
		{date(2024, most, 1), api.ErrDate},
		{date(2024, 1, least), api.ErrDate},
		{date(2024, 1, most), api.ErrDate},
		{date(api.MinYear, 1, 0), api.ErrDate},
		{date(api.MaxYear, 12, 32), api.ErrDate},
		{date(api.MinYear-1, 12, 31), api.ErrRange},
		{date(api.MaxYear+1, 1, 1), api.ErrRange},
		// The year comes before the month and the day.
		{date(0, 0, 0), api.ErrRange},
		{date(least, 13, 32), api.ErrRange},
		{date(most, -1, 0), api.ErrRange},
	}
	if calendar == api.Gregorian {
		l = append(l, badDate{date(1900, 2, 29), api.ErrDate}, badDate{date(2100, 2, 29), api.ErrDate}, badDate{date(100, 2, 29), api.ErrDate})
	}
	return l
}

// numbers lists day numbers of both calendars, near the ends of the range, the
// ends of years that only one calendar has as leap years, and in between.
func numbers() []int {
	var l []int
	centers := []int{0, 365, 36524, 146097, 577736, 693595, 730120, 767010, 1 << 31, 1 << 32, lastGregorian / 2, lastGregorian - 400}
	for _, n := range centers {
		for i := range 800 {
			l = append(l, n-400+i)
		}
	}
	for n := firstGregorian; n <= lastGregorian; n += 365242500 / 7 {
		l = append(l, n)
	}
	for i := range 40 {
		l = append(l, firstJulian-20+i, lastJulian-20+i, lastGregorian-20+i)
	}
	return append(l, least, least+1, most, most-1, 1<<40, -1<<40)
}

// P5.1: the results are those of the calendar's own package.
func TestToDayAndFromDayAreThoseOfTheCalendar(t *testing.T) {
	for _, n := range numbers() {
		if got, want := packDate(civil.FromDay(api.Julian, n)), packDate(julian.FromDay(n)); got != want {
			t.Errorf("FromDay(Julian, %d) = %v, want %v", n, got, want)
		}
		if got, want := packDate(civil.FromDay(api.Gregorian, n)), packDate(gregorian.FromDay(n)); got != want {
			t.Errorf("FromDay(Gregorian, %d) = %v, want %v", n, got, want)
		}
		d, _ := gregorian.FromDay(n)
		if got, want := packNumber(civil.ToDay(api.Julian, d)), packNumber(julian.ToDay(d)); got != want {
			t.Errorf("ToDay(Julian, %v) = %v, want %v", d, got, want)
		}
		if got, want := packNumber(civil.ToDay(api.Gregorian, d)), packNumber(gregorian.ToDay(d)); got != want {
			t.Errorf("ToDay(Gregorian, %v) = %v, want %v", d, got, want)
		}
	}
}

// P5.1: known days, and the ends of both calendars.
func TestToDayAndFromDayOfKnownDays(t *testing.T) {
	cases := []struct {
		calendar int
		d        api.Date
		n        int
	}{
		{api.Julian, date(api.MinYear, 1, 1), firstJulian},
		{api.Julian, date(api.MinYear, 1, 3), 1},
		{api.Julian, date(api.MaxYear, 12, 31), lastJulian},
		{api.Gregorian, date(api.MinYear, 1, 1), firstGregorian},
		{api.Gregorian, date(api.MaxYear, 12, 31), lastGregorian},
		{api.Julian, date(1582, 10, 4), 577735},
		{api.Gregorian, date(1582, 10, 14), 577735},
		{api.Gregorian, date(1582, 10, 15), 577736},
	}
	for _, c := range cases {
		if got := packNumber(civil.ToDay(c.calendar, c.d)); got != found(c.n) {
			t.Errorf("ToDay(%d, %v) = %v, want %d", c.calendar, c.d, got, c.n)
		}
		if got := packDate(civil.FromDay(c.calendar, c.n)); got != (dated{c.d, api.OK}) {
			t.Errorf("FromDay(%d, %d) = %v, want %v", c.calendar, c.n, got, c.d)
		}
	}
	for _, n := range []int{firstJulian - 1, lastJulian + 1, least, most} {
		if got := packDate(civil.FromDay(api.Julian, n)); got != noDate(api.ErrRange) {
			t.Errorf("FromDay(Julian, %d) = %v, want ErrRange", n, got)
		}
	}
	for _, n := range []int{firstGregorian - 1, lastGregorian + 1, least, most} {
		if got := packDate(civil.FromDay(api.Gregorian, n)); got != noDate(api.ErrRange) {
			t.Errorf("FromDay(Gregorian, %d) = %v, want ErrRange", n, got)
		}
	}
}

// P5.1, P5.2, P5.3: the errors of an invalid date.
func TestErrorsOfInvalidDates(t *testing.T) {
	for _, calendar := range both() {
		for _, c := range badDates(calendar) {
			if got := packNumber(civil.ToDay(calendar, c.d)); got != noNumber(c.errno) {
				t.Errorf("ToDay(%d, %v) = %v, want error %d", calendar, c.d, got, c.errno)
			}
			if got := packNumber(civil.OfYear(calendar, c.d)); got != noNumber(c.errno) {
				t.Errorf("OfYear(%d, %v) = %v, want error %d", calendar, c.d, got, c.errno)
			}
			if got := packNumber(civil.Weekday(calendar, c.d)); got != noNumber(c.errno) {
				t.Errorf("Weekday(%d, %v) = %v, want error %d", calendar, c.d, got, c.errno)
			}
			for _, to := range both() {
				if got := packDate(civil.Convert(c.d, calendar, to)); got != noDate(c.errno) {
					t.Errorf("Convert(%v, %d, %d) = %v, want error %d", c.d, calendar, to, got, c.errno)
				}
			}
			// The error of the date comes before that of the shift.
			for _, days := range []int{0, 1, -1, least, most} {
				if got := packDate(civil.Shift(calendar, c.d, days)); got != noDate(c.errno) {
					t.Errorf("Shift(%d, %v, %d) = %v, want error %d", calendar, c.d, days, got, c.errno)
				}
			}
		}
	}
}

// P5.1, P5.2, P5.3: a wrong calendar is an error before any other one.
func TestWrongCalendars(t *testing.T) {
	dates := []api.Date{date(2024, 2, 29), date(2023, 2, 29), date(2024, 13, 1), date(0, 1, 1), date(api.MaxYear+1, 0, 0), {}, date(least, least, least), date(most, most, most)}
	for _, calendar := range noCalendars() {
		for _, d := range dates {
			if got := packNumber(civil.ToDay(calendar, d)); got != noNumber(api.ErrArg) {
				t.Errorf("ToDay(%d, %v) = %v, want ErrArg", calendar, d, got)
			}
			if got := packNumber(civil.OfYear(calendar, d)); got != noNumber(api.ErrArg) {
				t.Errorf("OfYear(%d, %v) = %v, want ErrArg", calendar, d, got)
			}
			if got := packNumber(civil.Weekday(calendar, d)); got != noNumber(api.ErrArg) {
				t.Errorf("Weekday(%d, %v) = %v, want ErrArg", calendar, d, got)
			}
			for _, n := range []int{0, 1, -1, least, most} {
				if got := packDate(civil.Shift(calendar, d, n)); got != noDate(api.ErrArg) {
					t.Errorf("Shift(%d, %v, %d) = %v, want ErrArg", calendar, d, n, got)
				}
			}
		}
		for _, n := range []int{0, 1, 577736, firstJulian - 1, lastJulian + 1, least, most} {
			if got := packDate(civil.FromDay(calendar, n)); got != noDate(api.ErrArg) {
				t.Errorf("FromDay(%d, %d) = %v, want ErrArg", calendar, n, got)
			}
		}
		for _, year := range append(noYears(), 1, 2024, api.MaxYear) {
			if got := packNumber(civil.YearLength(calendar, year)); got != noNumber(api.ErrArg) {
				t.Errorf("YearLength(%d, %d) = %v, want ErrArg", calendar, year, got)
			}
			for _, day := range []int{1, 60, 0, -1, 367, least, most} {
				if got := packDate(civil.FromYear(calendar, year, day)); got != noDate(api.ErrArg) {
					t.Errorf("FromYear(%d, %d, %d) = %v, want ErrArg", calendar, year, day, got)
				}
			}
		}
	}
}

// P5.1: in Convert, each of the calendars can be wrong, or both.
func TestConvertWithWrongCalendars(t *testing.T) {
	dates := []api.Date{date(2024, 2, 29), date(2023, 2, 29), date(0, 1, 1), date(1, 1, 1), date(api.MaxYear, 12, 31), {}, date(least, least, least)}
	for _, d := range dates {
		for _, wrong := range noCalendars() {
			for _, right := range both() {
				if got := packDate(civil.Convert(d, wrong, right)); got != noDate(api.ErrArg) {
					t.Errorf("Convert(%v, %d, %d) = %v, want ErrArg", d, wrong, right, got)
				}
				if got := packDate(civil.Convert(d, right, wrong)); got != noDate(api.ErrArg) {
					t.Errorf("Convert(%v, %d, %d) = %v, want ErrArg", d, right, wrong, got)
				}
			}
			for _, other := range noCalendars() {
				if got := packDate(civil.Convert(d, wrong, other)); got != noDate(api.ErrArg) {
					t.Errorf("Convert(%v, %d, %d) = %v, want ErrArg", d, wrong, other, got)
				}
			}
		}
	}
}

// P5.1: known pairs of dates, in both directions.
func TestConvertKnownDates(t *testing.T) {
	cases := []struct{ julian, gregorian api.Date }{
		{date(1582, 10, 4), date(1582, 10, 14)},
		{date(1582, 10, 5), date(1582, 10, 15)},
		{date(2024, 4, 22), date(2024, 5, 5)},
		{date(1, 1, 3), date(1, 1, 1)},
		{date(200, 2, 29), date(200, 2, 28)},
		{date(200, 3, 1), date(200, 3, 1)},
		{date(300, 2, 29), date(300, 3, 1)},
		{date(1752, 9, 2), date(1752, 9, 13)},
		{date(1900, 2, 28), date(1900, 3, 12)},
		{date(1900, 2, 29), date(1900, 3, 13)},
		{date(1900, 3, 1), date(1900, 3, 14)},
		{date(1900, 2, 15), date(1900, 2, 27)},
		{date(1900, 2, 16), date(1900, 2, 28)},
		{date(1900, 2, 17), date(1900, 3, 1)},
		{date(2000, 2, 16), date(2000, 2, 29)},
		{date(2000, 2, 29), date(2000, 3, 13)},
		{date(2099, 12, 18), date(2099, 12, 31)},
		{date(2100, 2, 29), date(2100, 3, 14)},
	}
	for _, c := range cases {
		if got := packDate(civil.Convert(c.julian, api.Julian, api.Gregorian)); got != (dated{c.gregorian, api.OK}) {
			t.Errorf("Convert(%v, Julian, Gregorian) = %v, want %v", c.julian, got, c.gregorian)
		}
		if got := packDate(civil.Convert(c.gregorian, api.Gregorian, api.Julian)); got != (dated{c.julian, api.OK}) {
			t.Errorf("Convert(%v, Gregorian, Julian) = %v, want %v", c.gregorian, got, c.julian)
		}
	}
}

// P5.1: each calendar has days that the other one does not have.
func TestConvertDaysOfOneCalendarOnly(t *testing.T) {
	julianOnly := []api.Date{date(1, 1, 1), date(1, 1, 2)}
	for n := lastGregorian + 1; n <= lastGregorian+5; n++ {
		d, _ := julian.FromDay(n)
		julianOnly = append(julianOnly, d)
	}
	julianOnly = append(julianOnly, date(api.MaxYear, 12, 30), date(api.MaxYear, 12, 31))
	for _, d := range julianOnly {
		if got := packDate(civil.Convert(d, api.Julian, api.Gregorian)); got != noDate(api.ErrRange) {
			t.Errorf("Convert(%v, Julian, Gregorian) = %v, want ErrRange", d, got)
		}
		if got := packDate(civil.Convert(d, api.Julian, api.Julian)); got != (dated{d, api.OK}) {
			t.Errorf("Convert(%v, Julian, Julian) = %v, want the same date", d, got)
		}
	}
	last := date(api.MaxYear, 12, 31)
	want := packDate(julian.FromDay(lastGregorian))
	if got := packDate(civil.Convert(last, api.Gregorian, api.Julian)); got != want || got.errno != api.OK {
		t.Errorf("Convert(%v, Gregorian, Julian) = %v, want %v", last, got, want)
	}
	if got := packDate(civil.Convert(want.d, api.Julian, api.Gregorian)); got != (dated{last, api.OK}) {
		t.Errorf("Convert(%v, Julian, Gregorian) = %v, want %v", want.d, got, last)
	}
	for _, d := range []api.Date{date(1, 1, 1), last} {
		if got := packDate(civil.Convert(d, api.Gregorian, api.Gregorian)); got != (dated{d, api.OK}) {
			t.Errorf("Convert(%v, Gregorian, Gregorian) = %v, want the same date", d, got)
		}
	}
	// A leap day of only one of the calendars is not valid in the other one.
	if got := packDate(civil.Convert(date(1900, 2, 29), api.Gregorian, api.Julian)); got != noDate(api.ErrDate) {
		t.Errorf("Convert(1900-02-29, Gregorian, Julian) = %v, want ErrDate", got)
	}
}

// daysBefore counts the days of a year before a month, by the lengths of the
// calendar's own package.
func daysBefore(calendar, year, month int) int {
	length := julian.Length
	if calendar == api.Gregorian {
		length = gregorian.Length
	}
	sum := 0
	for m := 1; m < month; m++ {
		sum += length(year, m)
	}
	return sum
}

// years lists years of all kinds.
func years() []int {
	return []int{1, 2, 3, 4, 5, 96, 100, 101, 200, 300, 399, 400, 401, 1582, 1583, 1600, 1700, 1900, 1954, 1999, 2000, 2001, 2023, 2024, 2100, 2400, 99999, 100000, 123456788, api.MaxYear - 100, api.MaxYear - 4, api.MaxYear - 1, api.MaxYear}
}

// P5.2: all days of the year, in both directions.
func TestDaysOfTheYear(t *testing.T) {
	for _, calendar := range both() {
		for _, year := range years() {
			length := daysBefore(calendar, year, 13)
			if got := packNumber(civil.YearLength(calendar, year)); got != found(length) {
				t.Errorf("YearLength(%d, %d) = %v, want %d", calendar, year, got, length)
			}
			month := 1
			for day := 1; day <= length; day++ {
				if day > daysBefore(calendar, year, month+1) {
					month++
				}
				d := date(year, month, day-daysBefore(calendar, year, month))
				if got := packDate(civil.FromYear(calendar, year, day)); got != (dated{d, api.OK}) {
					t.Errorf("FromYear(%d, %d, %d) = %v, want %v", calendar, year, day, got, d)
				}
				if got := packNumber(civil.OfYear(calendar, d)); got != found(day) {
					t.Errorf("OfYear(%d, %v) = %v, want %d", calendar, d, got, day)
				}
			}
			for _, day := range []int{0, -1, -365, length + 1, length + 2, 367, 1<<32 + 1, least, least + 1, most, most - 1} {
				if got := packDate(civil.FromYear(calendar, year, day)); got != noDate(api.ErrDate) {
					t.Errorf("FromYear(%d, %d, %d) = %v, want ErrDate", calendar, year, day, got)
				}
			}
		}
	}
}

// P5.2: known lengths and days, among them years that are leap years in only
// one calendar.
func TestKnownDaysOfTheYear(t *testing.T) {
	lengths := []struct{ year, julian, gregorian int }{
		{1, 365, 365}, {4, 366, 366}, {100, 366, 365}, {400, 366, 366}, {1582, 365, 365}, {1900, 366, 365},
		{2000, 366, 366}, {2023, 365, 365}, {2024, 366, 366}, {2100, 366, 365}, {api.MaxYear - 1, 365, 365}, {api.MaxYear, 366, 366},
	}
	for _, c := range lengths {
		if got := packNumber(civil.YearLength(api.Julian, c.year)); got != found(c.julian) {
			t.Errorf("YearLength(Julian, %d) = %v, want %d", c.year, got, c.julian)
		}
		if got := packNumber(civil.YearLength(api.Gregorian, c.year)); got != found(c.gregorian) {
			t.Errorf("YearLength(Gregorian, %d) = %v, want %d", c.year, got, c.gregorian)
		}
	}
	cases := []struct {
		calendar int
		d        api.Date
		day      int
	}{
		{api.Gregorian, date(2000, 3, 1), 61},
		{api.Gregorian, date(1900, 3, 1), 60},
		{api.Julian, date(1900, 3, 1), 61},
		{api.Julian, date(1900, 2, 29), 60},
		{api.Julian, date(1900, 12, 31), 366},
		{api.Gregorian, date(1900, 12, 31), 365},
		{api.Gregorian, date(2024, 1, 1), 1},
		{api.Gregorian, date(2024, 2, 29), 60},
		{api.Gregorian, date(2024, 12, 31), 366},
		{api.Gregorian, date(2023, 12, 31), 365},
		{api.Julian, date(api.MinYear, 1, 1), 1},
		{api.Gregorian, date(api.MaxYear, 12, 31), 366},
	}
	for _, c := range cases {
		if got := packNumber(civil.OfYear(c.calendar, c.d)); got != found(c.day) {
			t.Errorf("OfYear(%d, %v) = %v, want %d", c.calendar, c.d, got, c.day)
		}
		if got := packDate(civil.FromYear(c.calendar, c.d.Year, c.day)); got != (dated{c.d, api.OK}) {
			t.Errorf("FromYear(%d, %d, %d) = %v, want %v", c.calendar, c.d.Year, c.day, got, c.d)
		}
	}
}

// P5.2: years out of range, also with days that no year has.
func TestYearsOutOfRange(t *testing.T) {
	for _, calendar := range both() {
		for _, year := range noYears() {
			if got := packNumber(civil.YearLength(calendar, year)); got != noNumber(api.ErrRange) {
				t.Errorf("YearLength(%d, %d) = %v, want ErrRange", calendar, year, got)
			}
			for _, day := range []int{1, 60, 365, 366, 0, -1, 367, least, most} {
				if got := packDate(civil.FromYear(calendar, year, day)); got != noDate(api.ErrRange) {
					t.Errorf("FromYear(%d, %d, %d) = %v, want ErrRange", calendar, year, day, got)
				}
			}
		}
	}
}

// P5.3: shifts across the ends of months, of years and of the range.
func TestShiftOfKnownDates(t *testing.T) {
	cases := []struct {
		calendar int
		d        api.Date
		days     int
		want     dated
	}{
		{api.Gregorian, date(2024, 2, 28), 0, on(2024, 2, 28)},
		{api.Gregorian, date(2024, 2, 28), 1, on(2024, 2, 29)},
		{api.Gregorian, date(2024, 2, 28), 2, on(2024, 3, 1)},
		{api.Gregorian, date(2023, 2, 28), 1, on(2023, 3, 1)},
		{api.Gregorian, date(1900, 2, 28), 1, on(1900, 3, 1)},
		{api.Julian, date(1900, 2, 28), 1, on(1900, 2, 29)},
		{api.Gregorian, date(1900, 3, 1), -1, on(1900, 2, 28)},
		{api.Julian, date(1900, 3, 1), -1, on(1900, 2, 29)},
		{api.Gregorian, date(2024, 1, 1), -1, on(2023, 12, 31)},
		{api.Gregorian, date(2023, 12, 31), 1, on(2024, 1, 1)},
		{api.Gregorian, date(2000, 1, 1), 146097, on(2400, 1, 1)},
		{api.Gregorian, date(2000, 1, 1), -146097, on(1600, 1, 1)},
		{api.Julian, date(2000, 1, 1), 1461, on(2004, 1, 1)},
		{api.Julian, date(1, 1, 1), 0, on(1, 1, 1)},
		{api.Julian, date(1, 1, 1), 1, on(1, 1, 2)},
		{api.Julian, date(1, 1, 1), -1, noDate(api.ErrRange)},
		{api.Gregorian, date(1, 1, 1), -1, noDate(api.ErrRange)},
		{api.Gregorian, date(1, 1, 2), -1, on(1, 1, 1)},
		{api.Gregorian, date(1, 1, 2), -2, noDate(api.ErrRange)},
		{api.Julian, date(api.MaxYear, 12, 31), 0, on(api.MaxYear, 12, 31)},
		{api.Julian, date(api.MaxYear, 12, 31), 1, noDate(api.ErrRange)},
		{api.Gregorian, date(api.MaxYear, 12, 31), 1, noDate(api.ErrRange)},
		{api.Gregorian, date(api.MaxYear, 12, 30), 1, on(api.MaxYear, 12, 31)},
		{api.Gregorian, date(1, 1, 1), lastGregorian - firstGregorian, on(api.MaxYear, 12, 31)},
		{api.Gregorian, date(1, 1, 1), lastGregorian - firstGregorian + 1, noDate(api.ErrRange)},
		{api.Gregorian, date(api.MaxYear, 12, 31), firstGregorian - lastGregorian, on(1, 1, 1)},
		{api.Gregorian, date(api.MaxYear, 12, 31), firstGregorian - lastGregorian - 1, noDate(api.ErrRange)},
		{api.Julian, date(1, 1, 1), lastJulian - firstJulian, on(api.MaxYear, 12, 31)},
		{api.Julian, date(api.MaxYear, 12, 31), firstJulian - lastJulian, on(1, 1, 1)},
		{api.Julian, date(api.MaxYear, 12, 31), firstJulian - lastJulian - 1, noDate(api.ErrRange)},
	}
	for _, c := range cases {
		if got := packDate(civil.Shift(c.calendar, c.d, c.days)); got != c.want {
			t.Errorf("Shift(%d, %v, %d) = %v, want %v", c.calendar, c.d, c.days, got, c.want)
		}
	}
}

// P5.3: shifts that are so great that the day number is not a 64-bit integer.
func TestShiftFarAway(t *testing.T) {
	dates := []api.Date{date(1, 1, 1), date(1, 1, 2), date(1, 1, 3), date(2024, 2, 29), date(api.MaxYear, 12, 31)}
	far := []int{least, least + 1, least + 2, least + lastJulian, most, most - 1, most - 2, most - lastJulian, 1 << 62, -1 << 62, 1 << 40, -1 << 40}
	for _, calendar := range both() {
		for _, d := range dates {
			for _, days := range far {
				if got := packDate(civil.Shift(calendar, d, days)); got != noDate(api.ErrRange) {
					t.Errorf("Shift(%d, %v, %d) = %v, want ErrRange", calendar, d, days, got)
				}
			}
		}
	}
}

// P5.3: shifting agrees with the day numbers, and undoes itself.
func TestShiftAgreesWithDayNumbers(t *testing.T) {
	for _, calendar := range both() {
		for _, n := range numbers() {
			d, errno := civil.FromDay(calendar, n)
			if errno != api.OK {
				continue
			}
			for _, days := range []int{0, 1, -1, 7, -7, 30, 31, -31, 365, -366, 36524, -36525, 146097} {
				want := packDate(civil.FromDay(calendar, n+days))
				got := packDate(civil.Shift(calendar, d, days))
				if got != want {
					t.Errorf("Shift(%d, %v, %d) = %v, want %v", calendar, d, days, got, want)
				}
				if got.errno != api.OK {
					continue
				}
				if back := packDate(civil.Shift(calendar, got.d, -days)); back != (dated{d, api.OK}) {
					t.Errorf("Shift(%d, %v, %d) = %v, want %v", calendar, got.d, -days, back, d)
				}
			}
		}
	}
}

// P5.3: known days of the week.
func TestWeekdayOfKnownDates(t *testing.T) {
	cases := []struct {
		calendar int
		d        api.Date
		want     int
	}{
		{api.Julian, date(1582, 10, 4), api.Thursday},
		{api.Gregorian, date(1582, 10, 15), api.Friday},
		{api.Gregorian, date(2024, 3, 31), api.Sunday},
		{api.Gregorian, date(2024, 3, 25), api.Monday},
		{api.Julian, date(2024, 4, 22), api.Sunday},
		{api.Gregorian, date(2000, 1, 1), api.Saturday},
		{api.Gregorian, date(1, 1, 1), api.Monday},
		{api.Julian, date(1, 1, 1), api.Saturday},
		{api.Julian, date(1, 1, 2), api.Sunday},
		{api.Gregorian, date(1900, 2, 28), api.Wednesday},
		{api.Julian, date(1900, 2, 29), api.Tuesday},
		{api.Gregorian, date(api.MaxYear, 12, 31), api.Sunday},
	}
	for _, c := range cases {
		if got := packNumber(civil.Weekday(c.calendar, c.d)); got != found(c.want) {
			t.Errorf("Weekday(%d, %v) = %v, want %d", c.calendar, c.d, got, c.want)
		}
	}
}

// P5.4: converting there and back returns the date, and the day of the week
// does not depend on the calendar.
func TestThereAndBack(t *testing.T) {
	for _, n := range numbers() {
		for _, from := range both() {
			d, errno := civil.FromDay(from, n)
			if errno != api.OK {
				continue
			}
			if got := packNumber(civil.ToDay(from, d)); got != found(n) {
				t.Errorf("ToDay(%d, %v) = %v, want %d", from, d, got, n)
			}
			if got := packNumber(civil.Weekday(from, d)); got != found(weekday.Of(n)) {
				t.Errorf("Weekday(%d, %v) = %v, want %d", from, d, got, weekday.Of(n))
			}
			for _, to := range both() {
				checkThereAndBack(t, d, from, to)
			}
		}
	}
}

func checkThereAndBack(t *testing.T, d api.Date, from, to int) {
	other, errno := civil.Convert(d, from, to)
	if errno != api.OK {
		return
	}
	if got := packDate(civil.Convert(other, to, from)); got != (dated{d, api.OK}) {
		t.Errorf("Convert(%v, %d, %d) = %v, want %v", other, to, from, got, d)
	}
	if got, want := packNumber(civil.Weekday(to, other)), packNumber(civil.Weekday(from, d)); got != want {
		t.Errorf("Weekday(%d, %v) = %v, but Weekday(%d, %v) = %v", to, other, got, from, d, want)
	}
}

// P5.4: the Gregorian date of a day keeps running ahead of the Julian one, by a
// day more after each leap day that only the Julian calendar has.
func TestDatesDriftApart(t *testing.T) {
	gap := func(year int) int {
		j, _ := civil.ToDay(api.Julian, date(year, 3, 1))
		g, _ := civil.ToDay(api.Gregorian, date(year, 3, 1))
		return j - g
	}
	for year := 2; year <= 3000; year++ {
		want := 0
		if year%100 == 0 && year%400 != 0 {
			want = 1
		}
		if got := gap(year) - gap(year-1); got != want {
			t.Errorf("from %d to %d the calendars drift apart by %d days, want %d", year-1, year, got, want)
		}
	}
}
