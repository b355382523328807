package query_test

import (
	"fmt"
	"testing"

	"computus/api"
	"computus/query"
)

// dateOf returns the date that is the text of an answer.
func dateOf(t *testing.T, a query.Answer) api.Date {
	t.Helper()
	var d api.Date
	if _, err := fmt.Sscanf(a.Text, "%d %d %d", &d.Year, &d.Month, &d.Day); err != nil || a != answered(query.DateText(d)) {
		t.Fatalf("the answer %+v is no date", a)
	}
	return d
}

// P28.2: dates of each calendar, which are the same day as the other date.
func TestConvert(t *testing.T) {
	for _, c := range []struct{ julian, gregorian api.Date }{
		{date(1582, 10, 4), date(1582, 10, 14)}, {date(1582, 10, 5), date(1582, 10, 15)}, {date(2024, 4, 22), date(2024, 5, 5)}, {date(2000, 1, 1), date(2000, 1, 14)}, {date(1999, 12, 19), date(2000, 1, 1)},
		{date(4, 2, 29), date(4, 2, 27)}, {date(100, 2, 29), date(100, 2, 27)}, {date(100, 3, 2), date(100, 3, 1)}, {date(200, 3, 1), date(200, 3, 1)},
		{date(1900, 2, 28), date(1900, 3, 12)}, {date(1900, 2, 29), date(1900, 3, 13)}, {date(1900, 3, 1), date(1900, 3, 14)}, {date(1900, 2, 16), date(1900, 2, 28)}, {date(1900, 2, 17), date(1900, 3, 1)},
		{date(2000, 2, 16), date(2000, 2, 29)}, {date(2024, 2, 29), date(2024, 3, 13)}, {date(2024, 2, 16), date(2024, 2, 29)},
		// The first and the last dates that the other calendar has.
		{date(1, 1, 3), date(1, 1, 1)}, {date(1, 1, 4), date(1, 1, 2)}, {date(999979466, 2, 15), date(1000000000, 1, 1)}, {date(999979467, 2, 14), date(1000000000, 12, 30)}, {date(999979467, 2, 15), date(1000000000, 12, 31)},
	} {
		expect(t, convertQuery(api.Julian, c.julian), answered(query.DateText(c.gregorian)))
		expect(t, convertQuery(api.Gregorian, c.gregorian), answered(query.DateText(c.julian)))
	}
}

// P28.2: dates that the other calendar does not have, dates that do not exist, and
// years outside of the range. ErrRange is told before ErrDate.
func TestConvertErrors(t *testing.T) {
	for _, c := range []struct {
		calendar int
		d        api.Date
		want     api.Errno
	}{
		{api.Julian, date(1, 1, 1), api.ErrRange}, {api.Julian, date(1, 1, 2), api.ErrRange}, {api.Julian, date(999979467, 2, 16), api.ErrRange}, {api.Julian, date(999979468, 1, 1), api.ErrRange}, {api.Julian, date(api.MaxYear, 12, 31), api.ErrRange},
		{api.Julian, date(2023, 2, 29), api.ErrDate}, {api.Julian, date(2024, 2, 30), api.ErrDate}, {api.Julian, date(2024, 4, 31), api.ErrDate}, {api.Julian, date(2024, 0, 1), api.ErrDate}, {api.Julian, date(2024, 13, 1), api.ErrDate}, {api.Julian, date(2024, 1, 0), api.ErrDate}, {api.Julian, date(2024, 1, 32), api.ErrDate}, {api.Julian, date(api.MaxYear, 12, 32), api.ErrDate},
		{api.Gregorian, date(1900, 2, 29), api.ErrDate}, {api.Gregorian, date(100, 2, 29), api.ErrDate}, {api.Gregorian, date(2000, 2, 30), api.ErrDate}, {api.Gregorian, date(2024, -1, 1), api.ErrDate}, {api.Gregorian, date(2024, 1, -1), api.ErrDate}, {api.Gregorian, date(2024, most, least), api.ErrDate}, {api.Gregorian, date(1, least, most), api.ErrDate},
		{api.Julian, date(0, 1, 1), api.ErrRange}, {api.Julian, date(0, 12, 31), api.ErrRange}, {api.Julian, date(api.MaxYear+1, 1, 1), api.ErrRange}, {api.Gregorian, date(0, 12, 31), api.ErrRange}, {api.Gregorian, date(api.MaxYear+1, 1, 1), api.ErrRange}, {api.Gregorian, date(-2024, 1, 1), api.ErrRange},
		{api.Julian, api.Date{}, api.ErrRange}, {api.Gregorian, api.Date{}, api.ErrRange}, {api.Julian, date(0, 13, 32), api.ErrRange}, {api.Gregorian, date(api.MaxYear+1, 2, 30), api.ErrRange}, {api.Julian, date(least, least, least), api.ErrRange}, {api.Gregorian, date(most, most, most), api.ErrRange},
	} {
		expect(t, convertQuery(c.calendar, c.d), refused(c.want))
	}
}

// P28.2: calendars that are none, with dates of each sort: ErrArg is told first.
func TestConvertOfOtherCalendars(t *testing.T) {
	for _, calendar := range append(noNumbers, 3) {
		for _, d := range []api.Date{date(2024, 1, 1), date(1, 1, 1), date(1900, 2, 29), date(2023, 2, 29), {}, date(-1, 1, 1), date(least, least, least), date(most, most, most)} {
			expect(t, convertQuery(calendar, d), refused(api.ErrArg))
		}
	}
}

// P28.2: converting there and back returns the date.
func TestConvertThereAndBack(t *testing.T) {
	for year := 1; year < lastDated; year += 199_999 {
		for month := 1; month <= 12; month++ {
			d := date(year, month, 3+month)
			expect(t, convertQuery(api.Gregorian, dateOf(t, query.Ask(convertQuery(api.Julian, d)))), answered(query.DateText(d)))
			expect(t, convertQuery(api.Julian, dateOf(t, query.Ask(convertQuery(api.Gregorian, d)))), answered(query.DateText(d)))
		}
	}
}
