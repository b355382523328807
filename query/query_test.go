package query_test

import (
	"fmt"
	"math"
	"testing"

	"computus/api"
	"computus/query"
)

const (
	least = math.MinInt
	most  = math.MaxInt
)

// date returns a date.
func date(year, month, day int) api.Date {
	return api.Date{Year: year, Month: month, Day: day}
}

// The queries of each kind, in which all fields that have no effect are zero.

func easterQuery(calendar, method, year int) query.Query {
	return query.Query{Kind: query.Easter, Calendar: calendar, Method: method, Year: year}
}

func orthodoxQuery(year int) query.Query {
	return query.Query{Kind: query.Orthodox, Year: year}
}

func convertQuery(calendar int, d api.Date) query.Query {
	return query.Query{Kind: query.Convert, Calendar: calendar, Date: d}
}

func ordoQuery(year int, text string) query.Query {
	return query.Query{Kind: query.Ordo, Year: year, Text: text}
}

func builtinQuery(year int) query.Query {
	return query.Query{Kind: query.Builtin, Year: year}
}

func whereQuery(year int, id string) query.Query {
	return query.Query{Kind: query.Where, Year: year, Text: id}
}

// answered returns an answer without an error.
func answered(text string) query.Answer {
	return query.Answer{Text: text}
}

// refused returns an answer with an error that has no offset.
func refused(errno api.Errno) query.Answer {
	return query.Answer{Err: errno}
}

// rejected returns an answer with ErrSyntax at an offset.
func rejected(offset int) query.Answer {
	return query.Answer{Offset: offset, Err: api.ErrSyntax}
}

// short returns the beginning of a text, for messages.
func short(text string) string {
	if len(text) > 60 {
		return text[:60] + ".."
	}
	return text
}

// shortQuery returns a query whose text is short.
func shortQuery(q query.Query) query.Query {
	q.Text = short(q.Text)
	return q
}

// shortAnswer returns an answer whose text is short.
func shortAnswer(a query.Answer) query.Answer {
	a.Text = short(a.Text)
	return a
}

// expect tests the answer to a query.
func expect(t *testing.T, q query.Query, want query.Answer) {
	t.Helper()
	if got := query.Ask(q); got != want {
		t.Errorf("Ask(%+v) = %+v, want %+v", shortQuery(q), shortAnswer(got), shortAnswer(want))
	}
}

// known is a query with its answer.
type known struct {
	q    query.Query
	want query.Answer
}

// knownAnswers returns queries of each kind, and for each kind each error.
func knownAnswers(t *testing.T) []known {
	t.Helper()
	return []known{
		{easterQuery(api.Gregorian, api.ByGauss, 2000), answered("2000 4 23")},
		{easterQuery(api.Julian, api.ByTable, 2000), answered("2000 4 17")},
		{easterQuery(api.Gregorian, api.ByButcher, 1961), answered("1961 4 2")},
		{easterQuery(api.Julian, 0, 2000), refused(api.ErrArg)},
		{easterQuery(0, api.ByGauss, 2000), refused(api.ErrArg)},
		{easterQuery(api.Gregorian, api.ByTable, 1582), refused(api.ErrRange)},
		{orthodoxQuery(2024), answered("2024 5 5")},
		{orthodoxQuery(0), refused(api.ErrRange)},
		{convertQuery(api.Julian, date(1582, 10, 4)), answered("1582 10 14")},
		{convertQuery(api.Gregorian, date(2000, 1, 1)), answered("1999 12 19")},
		{convertQuery(3, date(2000, 1, 1)), refused(api.ErrArg)},
		{convertQuery(api.Julian, date(1, 1, 1)), refused(api.ErrRange)},
		{convertQuery(api.Gregorian, date(1900, 2, 29)), refused(api.ErrDate)},
		{ordoQuery(2024, severalText), answered(calendarText(t, severalText, 2024))},
		{ordoQuery(2024, "catalogue\nfree 05\nend\n"), rejected(16)},
		{ordoQuery(2024, "x"), rejected(0)},
		{ordoQuery(2024, "catalogue\nfree 0\nend\n"), refused(api.ErrCatalogue)},
		{ordoQuery(1582, severalText), refused(api.ErrRange)},
		{ordoQuery(2024, crowdedText), refused(api.ErrNoFreeDay)},
		{builtinQuery(2024), answered(builtinText(t, 2024))},
		{builtinQuery(1582), refused(api.ErrRange)},
		{whereQuery(2024, "annunciation"), answered("2024 4 8")},
		{whereQuery(2024, "nowhere"), refused(api.ErrArg)},
		{whereQuery(api.MaxYear+1, "annunciation"), refused(api.ErrRange)},
		{query.Query{}, refused(api.ErrArg)},
		{query.Query{Kind: 7, Calendar: api.Julian, Method: api.ByTable, Year: 2024, Date: date(2024, 1, 1), Text: "annunciation"}, refused(api.ErrArg)},
	}
}

// P28.1: the texts of ordinary dates, of the zero date, of dates with negative numbers
// and with the greatest and the least ones, and of dates that do not exist.
func TestDateText(t *testing.T) {
	for _, c := range []struct {
		d    api.Date
		want string
	}{
		{date(2024, 3, 31), "2024 3 31"}, {date(2000, 4, 23), "2000 4 23"}, {date(1582, 10, 15), "1582 10 15"}, {date(1, 1, 1), "1 1 1"}, {date(1000000000, 12, 31), "1000000000 12 31"}, {date(2024, 2, 29), "2024 2 29"}, {date(10, 10, 10), "10 10 10"}, {date(100, 1, 20), "100 1 20"},
		{api.Date{}, "0 0 0"}, {date(1, 0, 0), "1 0 0"}, {date(0, 1, 0), "0 1 0"}, {date(0, 0, 1), "0 0 1"},
		{date(-1, 2, 3), "-1 2 3"}, {date(1, -2, 3), "1 -2 3"}, {date(1, 2, -3), "1 2 -3"}, {date(-44, -3, -15), "-44 -3 -15"}, {date(-10, -100, -1000), "-10 -100 -1000"},
		{date(most, 1, 2), "9223372036854775807 1 2"}, {date(1, most, 2), "1 9223372036854775807 2"}, {date(1, 2, most), "1 2 9223372036854775807"}, {date(most, most, most), "9223372036854775807 9223372036854775807 9223372036854775807"},
		{date(least, 1, 2), "-9223372036854775808 1 2"}, {date(1, least, 2), "1 -9223372036854775808 2"}, {date(1, 2, least), "1 2 -9223372036854775808"}, {date(least, least, least), "-9223372036854775808 -9223372036854775808 -9223372036854775808"}, {date(least, 0, most), "-9223372036854775808 0 9223372036854775807"},
		{date(2023, 2, 29), "2023 2 29"}, {date(2024, 13, 32), "2024 13 32"}, {date(2024, 4, 31), "2024 4 31"}, {date(1000000001, 1, 1), "1000000001 1 1"}, {date(2024, 0, 99), "2024 0 99"},
	} {
		if got := query.DateText(c.d); got != c.want {
			t.Errorf("DateText(%v) = %q, want %q", c.d, got, c.want)
		}
	}
}

// P28.1: each number in each place.
func TestDateTextOfManyNumbers(t *testing.T) {
	numbers := []int{least, least + 1, -1 << 32, -1000, -12, -10, -9, -1, 0, 1, 9, 10, 11, 99, 100, 365, 1 << 31, 1<<32 + 1, most - 1, most}
	for _, year := range numbers {
		for _, month := range numbers {
			for _, day := range numbers {
				if got, want := query.DateText(date(year, month, day)), fmt.Sprintf("%d %d %d", year, month, day); got != want {
					t.Errorf("DateText(%d, %d, %d) = %q", year, month, day, got)
				}
			}
		}
	}
}

// P28.2: the queries of each kind with each of their errors.
func TestKnownAnswers(t *testing.T) {
	for _, k := range knownAnswers(t) {
		expect(t, k.q, k.want)
	}
}

// P28.2, P28.3: the examples of the chapter, and those of the document.
func TestExamples(t *testing.T) {
	expect(t, easterQuery(api.Gregorian, api.ByGauss, 2000), answered("2000 4 23"))
	expect(t, whereQuery(2024, "annunciation"), answered("2024 4 8"))
	expect(t, easterQuery(api.Gregorian, api.ByTable, 2024), answered("2024 3 31"))
	expect(t, easterQuery(api.Julian, api.ByTable, 2024), answered("2024 4 22"))
	expect(t, orthodoxQuery(2024), answered("2024 5 5"))
	expect(t, easterQuery(api.Gregorian, api.ByGauss, 1981), answered("1981 4 19"))
	expect(t, easterQuery(api.Gregorian, api.ByGauss, 1954), answered("1954 4 18"))
	expect(t, whereQuery(2008, "joseph"), answered("2008 3 31"))
	expect(t, whereQuery(2008, "annunciation"), answered("2008 4 1"))
	expect(t, whereQuery(2022, "sacred-heart"), answered("2022 6 24"))
	expect(t, whereQuery(2022, "john-baptist"), answered("2022 6 25"))
	expect(t, ordoQuery(2024, "catalogue\nfree 05"), rejected(16))
}

// P28.2: the kinds have the numbers of the chapter.
func TestNumbersOfKinds(t *testing.T) {
	for i, kind := range []int{query.Easter, query.Orthodox, query.Convert, query.Ordo, query.Builtin, query.Where} {
		if kind != i+1 {
			t.Errorf("the kind %d is %d", i+1, kind)
		}
	}
}

// P28.2: kinds that are none, whatever the other fields are.
func TestOtherKinds(t *testing.T) {
	for _, kind := range []int{0, -1, -2, -3, -6, 7, 8, 9, 100, 1 << 8, 1<<8 + 1, 1<<32 + 1, 1<<32 + 5, -1<<32 + 6, 1 << 62, least, least + 1, least + 5, most - 1, most} {
		expect(t, query.Query{Kind: kind}, refused(api.ErrArg))
		for _, k := range knownAnswers(t) {
			k.q.Kind = kind
			expect(t, k.q, refused(api.ErrArg))
		}
		for _, q := range otherFields() {
			q.Kind = kind
			expect(t, q, refused(api.ErrArg))
		}
	}
}

// otherFields returns queries of no kind, with values of all sorts in their fields.
func otherFields() []query.Query {
	return []query.Query{
		{},
		{Calendar: api.Gregorian, Method: api.ByTable, Year: 2024, Date: date(2024, 1, 1), Text: "annunciation"},
		{Calendar: api.Julian, Method: api.ByButcher, Year: 1, Date: date(1, 1, 1), Text: severalText},
		{Calendar: 3, Method: 4, Year: 1582, Date: date(2023, 2, 29), Text: "nowhere"},
		{Calendar: -1, Method: -1, Year: -1, Date: date(-1, -1, -1), Text: "\x00\xff"},
		{Calendar: most, Method: most, Year: most, Date: date(most, most, most), Text: "x"},
		{Calendar: least, Method: least, Year: least, Date: date(least, least, least), Text: "catalogue\nfree 05\nend\n"},
		{Calendar: api.Gregorian, Method: api.ByGauss, Year: api.MaxYear, Date: date(api.MaxYear, 12, 31), Text: crowdedText},
	}
}

// withOtherFields returns the query whose fields that have no effect for the kind of q
// are those of another query.
func withOtherFields(q, other query.Query) query.Query {
	other.Kind = q.Kind
	switch q.Kind {
	case query.Easter:
		other.Calendar, other.Method, other.Year = q.Calendar, q.Method, q.Year
	case query.Orthodox, query.Builtin:
		other.Year = q.Year
	case query.Convert:
		other.Calendar, other.Date = q.Calendar, q.Date
	case query.Ordo, query.Where:
		other.Year, other.Text = q.Year, q.Text
	}
	return other
}

// P28.2: fields that have no effect for the kind of a query may have any value.
func TestFieldsWithoutEffect(t *testing.T) {
	for _, k := range knownAnswers(t) {
		for _, other := range otherFields() {
			expect(t, withOtherFields(k.q, other), k.want)
		}
	}
}

// P28.2: an answer has either a text and no error, or an error and no text; and an
// offset with ErrSyntax only. Nothing panics.
func TestFormOfAnswers(t *testing.T) {
	years := []int{least, -2024, 0, 1, 1582, 1583, 2024, api.MaxYear, api.MaxYear + 1, most}
	texts := []string{"", "x", "annunciation", "lent", "Annunciation", "annunciation ", "\xff", severalText, crowdedText, severalText[:50], severalText + "\n", "catalogue\nfree 0\nend\n"}
	for kind := -1; kind <= 8; kind++ {
		for number := -1; number <= 4; number++ {
			for _, year := range years {
				for _, text := range texts {
					q := query.Query{Kind: kind, Calendar: number, Method: 4 - number, Year: year, Date: date(year, number, number), Text: text}
					a := query.Ask(q)
					if (a.Text == "") != (a.Err != api.OK) || a.Offset != 0 && a.Err != api.ErrSyntax {
						t.Errorf("Ask(%+v) = %+v", shortQuery(q), shortAnswer(a))
					}
				}
			}
		}
	}
}
