package ordotext_test

import (
	"fmt"
	"math/rand"
	"slices"
	"strings"
	"testing"

	"computus/api"
	"computus/builtin"
	"computus/catalogue"
	"computus/ordo"
	"computus/ordotext"
)

// most is the greatest number of ten digits.
const most = 9_999_999_999

// dayNames are the names of the days of the week, from Sunday on.
var dayNames = []string{"sunday", "monday", "tuesday", "wednesday", "thursday", "friday", "saturday"}

// kindNames are the words of the kinds of entries.
var kindNames = map[int]string{api.Temporal: "temporal", api.Proper: "proper", api.Moved: "moved"}

// lineByDefinition returns the line of an entry, written out.
func lineByDefinition(e api.Entry) string {
	text := fmt.Sprintf("day %d %d %s %s %d %s %s %d", e.Date.Month, e.Date.Day, dayNames[e.Weekday], e.Season, e.Week, kindNames[e.Kind], e.Principal, e.Rank)
	if e.Kind == api.Moved {
		text += fmt.Sprintf(" from %d %d", e.From.Month, e.From.Day)
	}
	for _, id := range e.Commem {
		text += " with " + id
	}
	for _, id := range e.Omitted {
		text += " without " + id
	}
	return text
}

// textByDefinition returns the text of a printable calendar, written out line by
// line.
func textByDefinition(k api.Calendar) string {
	text := fmt.Sprintf("calendar %d\n", k.Year)
	for _, e := range k.Entries {
		text += lineByDefinition(e) + "\n"
	}
	return text + "end\n"
}

// sameEntry reports whether entries are equal, where nil and empty slices are the
// same.
func sameEntry(a, b api.Entry) bool {
	return a.Date == b.Date && a.Weekday == b.Weekday && a.Season == b.Season && a.Week == b.Week && a.Kind == b.Kind && a.Principal == b.Principal &&
		a.Rank == b.Rank && a.From == b.From && slices.Equal(a.Commem, b.Commem) && slices.Equal(a.Omitted, b.Omitted)
}

// same reports whether calendars are equal, where nil and empty slices are the same.
func same(a, b api.Calendar) bool {
	return a.Year == b.Year && slices.EqualFunc(a.Entries, b.Entries, sameEntry)
}

// expectText tests the text of a calendar, and that it is parsed to the calendar.
func expectText(t *testing.T, k api.Calendar, want string) {
	t.Helper()
	if text := ordotext.Print(k); text != want {
		t.Errorf("Print(%v) is %q, want %q", k, text, want)
	}
	if got, offset, errno := ordotext.Parse(want); !same(got, k) || offset != 0 || errno != api.OK {
		t.Errorf("Parse(%q) is %v, %d, %d; want %v, 0, 0", want, got, offset, errno, k)
	}
}

// expectLine tests the line of an entry, and the text of a calendar with it.
func expectLine(t *testing.T, e api.Entry, want string) {
	t.Helper()
	if got := ordotext.Line(e); got != want {
		t.Errorf("Line(%v) is %q, want %q", e, got, want)
	}
	k := api.Calendar{Year: e.Date.Year, Entries: []api.Entry{e}}
	expectText(t, k, fmt.Sprintf("calendar %d\n%s\nend\n", e.Date.Year, want))
}

// entry returns an entry of the year 2024 without commemorations and omissions.
func entry(month, day, weekday int, season string, week, kind int, principal string, rank int) api.Entry {
	return api.Entry{Date: api.Date{Year: 2024, Month: month, Day: day}, Weekday: weekday, Season: season, Week: week, Kind: kind, Principal: principal, Rank: rank}
}

// small returns a calendar with each kind of entry.
func small() api.Calendar {
	temporal := entry(1, 1, api.Monday, "yule", 0, api.Temporal, "yule", 8)
	proper := entry(12, 25, api.Wednesday, "yule-2", -10, api.Proper, "nativity", 1)
	proper.Commem, proper.Omitted = []string{"a", "st-john-2"}, []string{"with", "b", "without"}
	moved := entry(4, 8, api.Monday, "easter", 2, api.Moved, "annunciation", 1)
	moved.From = api.Date{Year: 2024, Month: 3, Day: 25}
	moved.Commem = []string{"x9"}
	last := entry(10, 31, api.Thursday, "per-annum", 30, api.Moved, "e", 9)
	last.From = api.Date{Year: 2024, Month: 10, Day: 30}
	last.Omitted = []string{"from"}
	return api.Calendar{Year: 2024, Entries: []api.Entry{temporal, proper, moved, last}}
}

// smallText is the text of the small calendar.
const smallText = `calendar 2024
day 1 1 monday yule 0 temporal yule 8
day 12 25 wednesday yule-2 -10 proper nativity 1 with a with st-john-2 without with without b without without
day 4 8 monday easter 2 moved annunciation 1 from 3 25 with x9
day 10 31 thursday per-annum 30 moved e 9 from 10 30 without from
end
`

// manyIDs are identifiers of several lengths.
var manyIDs = []string{
	"a", "z", "x9", "a-0", "day", "end", "from", "with", "without", "moved", "proper", "temporal", "monday", "calendar", "st-john-2", "a-b-c-d-e", "a0123456789",
	strings.Repeat("x", 39), strings.Repeat("x", 40), strings.Repeat("a-", 19) + "ab", "x" + strings.Repeat("7", 39),
}

// manyNumbers are numbers of all lengths and both signs.
var manyNumbers = []int{0, 1, -1, 2, 5, 7, 9, -9, 10, -10, 12, 25, 31, -46, 99, 100, -365, 1000, 1234567890, -1000000000, most - 1, 1 - most, most, -most}

// pick returns one element of a list.
func pick[T any](random *rand.Rand, l []T) T {
	return l[random.Intn(len(l))]
}

// randomIDs returns up to three identifiers.
func randomIDs(random *rand.Rand) []string {
	var l []string
	for range random.Intn(4) {
		l = append(l, pick(random, manyIDs))
	}
	return l
}

// randomDate returns a printable date of a year, which need not exist.
func randomDate(random *rand.Rand, year int) api.Date {
	return api.Date{Year: year, Month: pick(random, manyNumbers), Day: pick(random, manyNumbers)}
}

// randomCalendar returns a printable calendar with up to four entries.
func randomCalendar(random *rand.Rand) api.Calendar {
	k := api.Calendar{Year: pick(random, manyNumbers)}
	for range random.Intn(5) {
		e := api.Entry{
			Date: randomDate(random, k.Year), Weekday: random.Intn(7), Season: pick(random, manyIDs), Week: pick(random, manyNumbers), Kind: 1 + random.Intn(3),
			Principal: pick(random, manyIDs), Rank: pick(random, manyNumbers), Commem: randomIDs(random), Omitted: randomIDs(random),
		}
		if e.Kind == api.Moved {
			e.From = randomDate(random, k.Year)
		}
		k.Entries = append(k.Entries, e)
	}
	return k
}

// build returns the calendar of a year for the built-in catalogue.
func build(t *testing.T, year int) api.Calendar {
	t.Helper()
	k, errno := ordo.Build(builtin.Catalogue(), year)
	if errno != api.OK {
		t.Fatalf("the calendar of %d has the error %d", year, errno)
	}
	return k
}

// P27.1, P27.2: the example of the chapter, and calendars without entries, with each
// number as Year.
func TestEmptyCalendar(t *testing.T) {
	expectText(t, api.Calendar{Year: 2000}, "calendar 2000\nend\n")
	expectText(t, api.Calendar{}, "calendar 0\nend\n")
	expectText(t, api.Calendar{Year: 9999999999}, "calendar 9999999999\nend\n")
	expectText(t, api.Calendar{Year: -9999999999, Entries: []api.Entry{}}, "calendar -9999999999\nend\n")
	for _, n := range manyNumbers {
		expectText(t, api.Calendar{Year: n}, fmt.Sprintf("calendar %d\nend\n", n))
	}
}

// P27.1, P27.2: the small calendar, whose text is written out, each of its entries
// alone, and its first entries.
func TestSmallCalendar(t *testing.T) {
	expectText(t, small(), smallText)
	lines := strings.Split(smallText, "\n")
	for i, e := range small().Entries {
		expectLine(t, e, lines[1+i])
		want := strings.Join(lines[:1+i], "\n") + "\nend\n"
		expectText(t, api.Calendar{Year: 2024, Entries: small().Entries[:i]}, want)
	}
}

// P27.1, P27.2, P27.3: the calendars that layer 23 builds of the built-in catalogue,
// with some of their lines written out.
func TestBuiltinCalendars(t *testing.T) {
	lines := map[int][]string{
		2008: {"calendar 2008", "day 3 31 monday eastertide 0 moved joseph 1 from 3 19", "day 4 1 tuesday eastertide 0 moved annunciation 1 from 3 25"},
		2022: {"calendar 2022", "day 1 2 sunday christmas 1 temporal christmas 3", "day 6 25 saturday ordinary-time 2 moved john-baptist 1 from 6 24"},
		2024: {"calendar 2024", "day 1 1 monday christmas 0 proper mary-mother-of-god 1", "day 1 8 monday baptism-tide 0 temporal baptism-tide 8", "day 4 8 monday eastertide 0 moved annunciation 1 from 3 25"},
	}
	for _, year := range []int{1583, 1954, 1981, 2000, 2008, 2022, 2024, 1_000_000_000} {
		k := build(t, year)
		want := textByDefinition(k)
		expectText(t, k, want)
		if n := strings.Count(want, "\n"); n != 2+len(k.Entries) {
			t.Errorf("the text of the calendar of %d has %d lines", year, n)
		}
		for _, e := range k.Entries {
			if got := ordotext.Line(e); got != lineByDefinition(e) {
				t.Errorf("Line(%v) is %q", e, got)
			}
		}
		for _, line := range lines[year] {
			if !strings.Contains("\n"+want, "\n"+line+"\n") {
				t.Errorf("the text of the calendar of %d has no line %q", year, line)
			}
		}
	}
}

// P27.1, P27.2: each number in each place of an entry.
func TestNumbers(t *testing.T) {
	for _, n := range manyNumbers {
		for place := range 8 {
			m := [7]int{2024, 1, 2, 3, 4, 5, 6}
			for i := range m {
				if place == i || place == 7 {
					m[i] = n
				}
			}
			e := api.Entry{
				Date: api.Date{Year: m[0], Month: m[1], Day: m[2]}, Weekday: api.Friday, Season: "lent", Week: m[3], Kind: api.Moved, Principal: "p", Rank: m[4],
				From: api.Date{Year: m[0], Month: m[5], Day: m[6]},
			}
			expectLine(t, e, fmt.Sprintf("day %d %d friday lent %d moved p %d from %d %d", m[1], m[2], m[3], m[4], m[5], m[6]))
			e.Kind, e.From = api.Proper, api.Date{}
			expectLine(t, e, fmt.Sprintf("day %d %d friday lent %d proper p %d", m[1], m[2], m[3], m[4]))
		}
	}
}

// P27.1, P27.2: each kind, on each day of the week. Only the kind Moved has a From.
func TestKindsAndDaysOfTheWeek(t *testing.T) {
	for day, name := range dayNames {
		expectLine(t, entry(1, 2, day, "s", 3, api.Temporal, "p", 4), "day 1 2 "+name+" s 3 temporal p 4")
		expectLine(t, entry(1, 2, day, "s", 3, api.Proper, "p", 4), "day 1 2 "+name+" s 3 proper p 4")
		e := entry(1, 2, day, "s", 3, api.Moved, "p", 4)
		e.From = api.Date{Year: 2024, Month: 5, Day: 6}
		expectLine(t, e, "day 1 2 "+name+" s 3 moved p 4 from 5 6")
	}
}

// P27.1, P27.2: Commem and Omitted, empty, with one element and with several, in
// their order, for each kind.
func TestCommemAndOmitted(t *testing.T) {
	lists := []struct {
		ids      []string
		with     string
		omission string
	}{
		{nil, "", ""}, {[]string{}, "", ""}, {[]string{"a"}, " with a", " without a"}, {[]string{"b", "a"}, " with b with a", " without b without a"},
		{[]string{"c", "c", "a-1", "c"}, " with c with c with a-1 with c", " without c without c without a-1 without c"},
	}
	for kind, word := range kindNames {
		for _, commem := range lists {
			for _, omitted := range lists {
				e := entry(1, 2, api.Sunday, "s", 3, kind, "p", 4)
				e.Commem, e.Omitted = commem.ids, omitted.ids
				from := ""
				if kind == api.Moved {
					e.From = api.Date{Year: 2024, Month: 5, Day: 6}
					from = " from 5 6"
				}
				expectLine(t, e, "day 1 2 sunday s 3 "+word+" p 4"+from+commem.with+omitted.omission)
			}
		}
	}
}

// P27.1, P27.2: identifiers of 1 to 40 bytes, with digits and hyphens, also such as
// are words of the text.
func TestIdentifiers(t *testing.T) {
	ids := slices.Clone(manyIDs)
	for n := 1; n <= 40; n++ {
		ids = append(ids, strings.Repeat("q", n))
	}
	for _, id := range ids {
		if !catalogue.Identifier(id) {
			t.Fatalf("%q is no identifier", id)
		}
		expectLine(t, entry(1, 2, 0, id, 3, api.Temporal, "p", 4), "day 1 2 sunday "+id+" 3 temporal p 4")
		expectLine(t, entry(1, 2, 0, "s", 3, api.Proper, id, 4), "day 1 2 sunday s 3 proper "+id+" 4")
		e := entry(1, 2, 0, "s", 3, api.Proper, "p", 4)
		e.Commem = []string{id, "a", id}
		expectLine(t, e, "day 1 2 sunday s 3 proper p 4 with "+id+" with a with "+id)
		e.Omitted = e.Commem
		e.Commem = nil
		expectLine(t, e, "day 1 2 sunday s 3 proper p 4 without "+id+" without a without "+id)
	}
}

// P27.1, P27.2: calendars that are printable, though layer 23 would not return them:
// entries of the same day, in another order, of dates that do not exist, on another
// day of the week, and with the same identifier in Commem and Omitted.
func TestOtherCalendars(t *testing.T) {
	first := entry(1, 1, api.Monday, "s", 1, api.Temporal, "s", 8)
	second := entry(1, 2, api.Friday, "s", 1, api.Proper, "p", 1)
	second.Commem, second.Omitted = []string{"p", "a"}, []string{"a", "p"}
	never := entry(13, 32, api.Saturday, "s", 0, api.Moved, "p", 0)
	never.From = api.Date{Year: 2024}
	zero := entry(0, 0, api.Sunday, "s", 0, api.Temporal, "q", -1)
	late := entry(2, 30, api.Sunday, "s", 99, api.Moved, "s", 10)
	late.From = late.Date
	for _, entries := range [][]api.Entry{
		{first, first}, {second, first}, {never}, {zero, never, late, first, second, second}, slices.Repeat([]api.Entry{second}, 1000),
	} {
		k := api.Calendar{Year: 2024, Entries: entries}
		expectText(t, k, textByDefinition(k))
	}
	expectLine(t, second, "day 1 2 friday s 1 proper p 1 with p with a without a without p")
	expectLine(t, never, "day 13 32 saturday s 0 moved p 0 from 0 0")
	expectLine(t, late, "day 2 30 sunday s 99 moved s 10 from 2 30")
	// A calendar of a year that has none, with a From in its year 0.
	e := api.Entry{Weekday: api.Sunday, Season: "s", Kind: api.Moved, Principal: "p"}
	expectLine(t, e, "day 0 0 sunday s 0 moved p 0 from 0 0")
}

// P27.1, P27.2, P27.3: random printable calendars, against the definition.
func TestRandomCalendars(t *testing.T) {
	random := rand.New(rand.NewSource(27))
	for range 3000 {
		k := randomCalendar(random)
		expectText(t, k, textByDefinition(k))
		for _, e := range k.Entries {
			if got := ordotext.Line(e); got != lineByDefinition(e) {
				t.Errorf("Line(%v) is %q", e, got)
			}
		}
	}
}

// P27.1: the text is made of the lines of its entries, between the first line and the
// last one.
func TestTextIsMadeOfLines(t *testing.T) {
	k := build(t, 2024)
	lines := strings.Split(ordotext.Print(k), "\n")
	if len(lines) != 369 || lines[0] != "calendar 2024" || lines[367] != "end" || lines[368] != "" {
		t.Fatalf("the text has %d lines", len(lines))
	}
	for i, e := range k.Entries {
		if lines[1+i] != ordotext.Line(e) {
			t.Errorf("the line %d is %q", 1+i, lines[1+i])
		}
	}
}

// P27.1, P27.2: a long line and a long text, and long lines that do not end.
func TestLongTexts(t *testing.T) {
	random := rand.New(rand.NewSource(28))
	e := entry(1, 2, api.Sunday, "s", 3, api.Proper, "p", 4)
	for range 5000 {
		e.Commem, e.Omitted = append(e.Commem, pick(random, manyIDs)), append(e.Omitted, pick(random, manyIDs))
	}
	k := api.Calendar{Year: 2024}
	for range 1000 {
		for _, other := range randomCalendar(random).Entries {
			other.Date.Year = 2024
			if other.Kind == api.Moved {
				other.From.Year = 2024
			}
			k.Entries = append(k.Entries, other)
		}
	}
	k.Entries = append(k.Entries, e)
	text := ordotext.Print(k)
	if got, offset, errno := ordotext.Parse(text); !same(got, k) || offset != 0 || errno != api.OK {
		t.Errorf("a long text is rejected with %d, %d", offset, errno)
	}
	expectRejected(t, "calendar 1"+strings.Repeat("0", 1<<20), 19)
	expectRejected(t, "calendar 1\nday 1 2 sunday "+strings.Repeat("x", 1<<20), 66)
}

// P27.1: Print and Line do not panic for calendars that are not printable, either.
func TestPrintOfCalendarsThatAreNotPrintable(t *testing.T) {
	for _, n := range []int{-1 << 63, -1, 7, 1<<63 - 1} {
		e := api.Entry{Date: api.Date{Year: 1, Month: n, Day: n}, Weekday: n, Season: "\xff", Week: n, Kind: n, Rank: n, Commem: []string{""}, Omitted: []string{"A b"}}
		if text := ordotext.Line(e); !strings.HasPrefix(text, fmt.Sprintf("day %d ", n)) {
			t.Errorf("Line(%v) is %q", e, text)
		}
		k := api.Calendar{Year: n, Entries: []api.Entry{{}, e, {Kind: 4}, {Kind: 0}}}
		if text := ordotext.Print(k); !strings.HasPrefix(text, fmt.Sprintf("calendar %d\n", n)) {
			t.Errorf("Print(%v) is %q", k, text)
		}
	}
}
