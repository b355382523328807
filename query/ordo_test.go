package query_test

import (
	"fmt"
	"reflect"
	"slices"
	"strings"
	"testing"

	"computus/api"
	"computus/builtin"
	"computus/cattext"
	"computus/easter"
	"computus/grammar"
	"computus/gregorian"
	"computus/ordo"
	"computus/ordotext"
	"computus/query"
)

// severalText is the text of a catalogue with several seasons and feasts, some of them
// on the same days.
const severalText = `catalogue
free 5
season per-annum 5 8 fixed 1 1
season lent 2 6 easter -46
season eastertide 2 8 easter 0
season after 5 8 easter 50
season yule 2 6 fixed 12 25
feast queen 1 commemorate fixed 5 6
feast king 2 commemorate fixed 5 6
feast duke 3 omit fixed 5 6
feast earl 4 transfer fixed 5 6
feast page 7 omit fixed 5 7
feast squire 7 commemorate fixed 5 7
feast bard 2 omit nth sunday 1 9 1
end
`

// crowdedText is the text of a catalogue with a feast for which there is no free day.
const crowdedText = "catalogue\nfree 9\nseason s 9 9 fixed 1 1\nfeast a 1 omit fixed 6 1\nfeast b 1 transfer fixed 6 1\nend\n"

// seasonText is the text of a catalogue with a single season.
const seasonText = "catalogue\nfree 0\nseason s 3 4 fixed 1 1\nend\n"

// parse returns the catalogue of a text.
func parse(t *testing.T, text string) api.Catalogue {
	t.Helper()
	c, offset, errno := cattext.Parse(text)
	if errno != api.OK {
		t.Fatalf("%q is rejected at %d", text, offset)
	}
	return c
}

// build returns the calendar of a year.
func build(t *testing.T, c api.Catalogue, year int) api.Calendar {
	t.Helper()
	k, errno := ordo.Build(c, year)
	if errno != api.OK {
		t.Fatalf("the calendar of %d has the error %d", year, errno)
	}
	return k
}

// calendarText returns the text of the calendar of a year for the catalogue of a text.
func calendarText(t *testing.T, text string, year int) string {
	t.Helper()
	return ordotext.Print(build(t, parse(t, text), year))
}

// builtinText returns the text of the calendar of a year for the built-in catalogue.
func builtinText(t *testing.T, year int) string {
	t.Helper()
	return ordotext.Print(build(t, builtin.Catalogue(), year))
}

// expectLines tests that the answer to a query is the text of a calendar of a year
// with some lines.
func expectLines(t *testing.T, q query.Query, lines ...string) {
	t.Helper()
	a := query.Ask(q)
	got := strings.Split(a.Text, "\n")
	want := 365 + 3
	if gregorian.Leap(q.Year) {
		want++
	}
	if a.Err != api.OK || a.Offset != 0 || len(got) != want || got[0] != fmt.Sprintf("calendar %d", q.Year) || got[want-2] != "end" || got[want-1] != "" {
		t.Errorf("the answer to %+v is %+v", shortQuery(q), shortAnswer(a))
	}
	for _, line := range lines {
		if !slices.Contains(got, line) {
			t.Errorf("the answer to %+v has no line %q", shortQuery(q), line)
		}
	}
}

// P28.2: the text of a calendar with a single season, written out line by line.
func TestOrdoOfOneSeason(t *testing.T) {
	names := []string{"sunday", "monday", "tuesday", "wednesday", "thursday", "friday", "saturday"}
	// 1 January 2023 is a Sunday.
	day, week, want := 0, 0, "calendar 2023\n"
	for month := 1; month <= 12; month++ {
		for d := 1; d <= gregorian.Length(2023, month); d++ {
			rank := 4
			if day%7 == 0 {
				rank = 3
				week++
			}
			want += fmt.Sprintf("day %d %d %s s %d temporal s %d\n", month, d, names[day%7], week, rank)
			day++
		}
	}
	expect(t, ordoQuery(2023, seasonText), answered(want+"end\n"))
}

// P28.2: the text of a catalogue with several feasts, with some of the lines written
// out.
func TestOrdoOfSeveralFeasts(t *testing.T) {
	expectLines(t, ordoQuery(2024, severalText),
		"day 1 1 monday per-annum 0 temporal per-annum 8",
		"day 1 7 sunday per-annum 1 temporal per-annum 5",
		"day 2 14 wednesday lent 0 temporal lent 6",
		"day 3 31 sunday eastertide 1 temporal eastertide 2",
		"day 5 6 monday eastertide 6 proper queen 1 with king without duke",
		"day 5 7 tuesday eastertide 6 moved earl 4 from 5 6 with squire without page",
		"day 9 1 sunday after 15 proper bard 2",
		"day 12 31 tuesday yule 1 temporal yule 6",
	)
	for _, year := range []int{1583, 1584, 2000, 2023, 2024, api.MaxYear - 1, api.MaxYear} {
		for _, text := range []string{severalText, seasonText} {
			expect(t, ordoQuery(year, text), answered(calendarText(t, text, year)))
		}
	}
}

// P28.2: the text of the built-in catalogue has the answers of Builtin.
func TestOrdoOfTheBuiltinCatalogue(t *testing.T) {
	text := cattext.Print(builtin.Catalogue())
	for _, year := range []int{1582, 1583, 2008, 2022, 2024, api.MaxYear, api.MaxYear + 1} {
		expect(t, ordoQuery(year, text), query.Ask(builtinQuery(year)))
	}
}

// spoilt returns texts that are none of catalogues, with the offsets of their first
// offending bytes.
func spoilt() map[string]int {
	return map[string]int{
		"": 0, "\n": 0, " ": 0, "x": 0, "end\n": 0, "\xff": 0, "calendar 2024\nend\n": 2, "catalogue": 9, "catalogue\n": 10, "catalogue\nfree 0\nend": 20, "catalogue\nfree 0\nend\n\n": 21,
		"catalogue\nfree 05\nend\n": 16, "catalogue\nfree 00": 16, "catalogue\nfree -\n": 16, "catalogue\nfree 0\nend \n": 20, "catalogue\nfree 0\nseason s 3 4 fixed 1\nend\n": 37, "catalogue\nfree 0\nseason s- 3 4 fixed 1 1\nend\n": 26, "catalogue\nfree 0\nseason s 3 4 fixed 1 1\nend": 43,
		severalText[1:]: 0, severalText + "x": len(severalText), severalText + severalText: len(severalText), severalText[:len(severalText)-1]: len(severalText) - 1,
	}
}

// malformed returns texts of catalogues that are not well-formed.
func malformed() []string {
	return []string{
		"catalogue\nfree 0\nend\n",
		"catalogue\nfree 5\nfeast a 1 omit fixed 1 1\nend\n",
		"catalogue\nfree 10\nseason s 3 4 fixed 1 1\nend\n",
		"catalogue\nfree -1\nseason s 3 4 fixed 1 1\nend\n",
		"catalogue\nfree 0\nseason s 0 4 fixed 1 1\nend\n",
		"catalogue\nfree 0\nseason s 3 4 fixed 2 30\nend\n",
		"catalogue\nfree 0\nseason s 3 4 easter 9999999999\nend\n",
		"catalogue\nfree 0\nseason s 3 4 fixed 1 1\nseason s 3 4 fixed 2 1\nend\n",
		"catalogue\nfree 0\nseason s 3 4 fixed 1 1\nfeast s 1 omit fixed 1 1\nend\n",
		"catalogue\nfree 0\nseason s 3 4 fixed 1 1\nfeast a 10 omit fixed 1 1\nend\n",
		"catalogue\nfree 0\n" + strings.Repeat("season s 3 4 fixed 1 1\n", 21) + "end\n",
	}
}

// P28.2: texts that are cut off or spoilt, with the offsets of their first offending
// bytes.
func TestOrdoOfSpoiltTexts(t *testing.T) {
	for text, offset := range spoilt() {
		expect(t, ordoQuery(2024, text), rejected(offset))
	}
	long := cattext.Print(builtin.Catalogue())
	for _, text := range []string{severalText, crowdedText, seasonText, long} {
		for n := range len(text) {
			expect(t, ordoQuery(2024, text[:n]), rejected(n))
		}
		expect(t, ordoQuery(2024, text+"\n"), rejected(len(text)))
	}
}

// P28.2: a byte of a text is replaced, removed or doubled. Layers 26, 23 and 27 tell
// the answer.
func TestOrdoOfChangedTexts(t *testing.T) {
	for text := range grammar.ChangedBytes(seasonText, "\n 09-es") {
		c, offset, errno := cattext.Parse(text)
		want := rejected(offset)
		if errno == api.OK {
			k, errno := ordo.Build(c, 2024)
			want = refused(errno)
			if errno == api.OK {
				want = answered(ordotext.Print(k))
			}
		}
		expect(t, ordoQuery(2024, text), want)
	}
}

// P28.2: the first error alone is told, which is that of the text, then that of the
// catalogue, then that of the year, and then that of the days.
func TestOrdoErrors(t *testing.T) {
	for _, year := range []int{least, -2024, 0, 1, 1581, 1582, api.MaxYear + 1, api.MaxYear + 2, 1<<32 + 2024, most} {
		for text, offset := range spoilt() {
			expect(t, ordoQuery(year, text), rejected(offset))
		}
		for _, text := range malformed() {
			expect(t, ordoQuery(year, text), refused(api.ErrCatalogue))
		}
		for _, text := range []string{severalText, crowdedText, seasonText} {
			expect(t, ordoQuery(year, text), refused(api.ErrRange))
		}
	}
	for _, year := range []int{1583, 2024, api.MaxYear} {
		for text, offset := range spoilt() {
			expect(t, ordoQuery(year, text), rejected(offset))
		}
		for _, text := range malformed() {
			expect(t, ordoQuery(year, text), refused(api.ErrCatalogue))
		}
		expect(t, ordoQuery(year, crowdedText), refused(api.ErrNoFreeDay))
	}
}

// P28.2: the calendars for the built-in catalogue, with some of their lines written
// out.
func TestBuiltin(t *testing.T) {
	expectLines(t, builtinQuery(2024), "day 1 1 monday christmas 0 proper mary-mother-of-god 1", "day 1 8 monday baptism-tide 0 temporal baptism-tide 8", "day 3 25 monday holy-week 1 temporal holy-week 1", "day 4 8 monday eastertide 0 moved annunciation 1 from 3 25")
	expectLines(t, builtinQuery(2008), "day 3 31 monday eastertide 0 moved joseph 1 from 3 19", "day 4 1 tuesday eastertide 0 moved annunciation 1 from 3 25")
	expectLines(t, builtinQuery(2022), "day 6 24 friday ordinary-time 2 proper sacred-heart 1", "day 6 25 saturday ordinary-time 2 moved john-baptist 1 from 6 24")
	for _, year := range []int{1583, 1584, 2000, 2023, api.MaxYear - 1, api.MaxYear} {
		expectLines(t, builtinQuery(year))
		expect(t, builtinQuery(year), answered(builtinText(t, year)))
	}
	for _, year := range []int{least, -2024, 0, 1, 1581, 1582, api.MaxYear + 1, api.MaxYear + 2, 1<<32 + 2024, most} {
		expect(t, builtinQuery(year), refused(api.ErrRange))
	}
}

// sameEntry reports whether entries are equal, where nil and empty slices are the
// same.
func sameEntry(a, b api.Entry) bool {
	if !slices.Equal(a.Commem, b.Commem) || !slices.Equal(a.Omitted, b.Omitted) {
		return false
	}
	a.Commem, a.Omitted, b.Commem, b.Omitted = nil, nil, nil, nil
	return reflect.DeepEqual(a, b)
}

// expectCalendar tests that the answer to a query is parsed to a calendar.
func expectCalendar(t *testing.T, q query.Query, want api.Calendar) {
	t.Helper()
	a := query.Ask(q)
	got, offset, errno := ordotext.Parse(a.Text)
	if a.Err != api.OK || errno != api.OK || got.Year != want.Year || !slices.EqualFunc(got.Entries, want.Entries, sameEntry) {
		t.Errorf("the answer to %+v is parsed to a calendar of %d with %d entries, %d, %d", shortQuery(q), got.Year, len(got.Entries), offset, errno)
	}
}

// yearsOfEaster returns the first common year and the first leap year with each date
// of Easter. The calendar of any year is that of one of these, with another number.
func yearsOfEaster() []int {
	type kind struct {
		month, day int
		leap       bool
	}
	var l []int
	seen := map[kind]bool{}
	for year := api.FirstGregorian; len(l) < 2*35; year++ {
		d, _ := easter.Date(api.Gregorian, year)
		k := kind{d.Month, d.Day, gregorian.Leap(year)}
		if !seen[k] {
			seen[k] = true
			l = append(l, year)
		}
	}
	return l
}

// P28.4: the answers to Ordo and Builtin are parsed to the calendars, and Builtin
// never has an error: years of each length with each date of Easter, and other years.
func TestCalendarsAreParsed(t *testing.T) {
	years := yearsOfEaster()
	for year := api.FirstGregorian; year <= api.MaxYear; year += 9_999_999 {
		years = append(years, year)
	}
	for _, year := range years {
		expectCalendar(t, builtinQuery(year), build(t, builtin.Catalogue(), year))
	}
	for i := range 20 {
		for _, year := range []int{api.FirstGregorian + i, 2010 + i, api.MaxYear - i} {
			expectCalendar(t, builtinQuery(year), build(t, builtin.Catalogue(), year))
			for _, text := range []string{severalText, seasonText} {
				expectCalendar(t, ordoQuery(year, text), build(t, parse(t, text), year))
			}
		}
	}
}
