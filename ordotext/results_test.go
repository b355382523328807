package ordotext_test

import (
	"reflect"
	"strings"
	"testing"

	"computus/api"
	"computus/ordotext"
)

// junk is written into slices that must not be shared.
var junk = api.Entry{Date: api.Date{Year: 77, Month: 78, Day: 79}, Weekday: 80, Season: "junk", Week: 81, Kind: 82, Principal: "junk", Rank: 83}

// spoilIDs writes junk into identifiers, also into their unused capacity.
func spoilIDs(ids []string) {
	for i := range ids[:cap(ids)] {
		ids[:cap(ids)][i] = "junk"
	}
}

// spoil writes junk into the slices of a calendar, also into their unused capacity.
func spoil(k api.Calendar) {
	for i := range k.Entries {
		spoilIDs(k.Entries[i].Commem)
		spoilIDs(k.Entries[i].Omitted)
	}
	for i := range k.Entries[:cap(k.Entries)] {
		k.Entries[:cap(k.Entries)][i] = junk
	}
}

// roomy returns entries like those of the small calendar, with the slices of which
// some capacity is unused.
func roomy() []api.Entry {
	entries := append(small().Entries, junk, junk)
	for i := range entries {
		entries[i].Commem = append(entries[i].Commem, "junk", "junk")
		entries[i].Omitted = append(entries[i].Omitted, "junk", "junk")
	}
	return entries
}

// used returns the parts of roomy entries that the small calendar has.
func used(entries []api.Entry) []api.Entry {
	entries = entries[:len(entries)-2]
	for i, e := range entries {
		entries[i].Commem, entries[i].Omitted = e.Commem[:len(e.Commem)-2], e.Omitted[:len(e.Omitted)-2]
	}
	return entries
}

// expectUnused tests that entries have their junk in the unused capacity of all
// slices.
func expectUnused(t *testing.T, entries []api.Entry) {
	t.Helper()
	for _, e := range entries {
		for _, ids := range [][]string{e.Commem, e.Omitted} {
			n := len(ids)
			if !reflect.DeepEqual(ids[n:n+2], []string{"junk", "junk"}) {
				t.Errorf("the unused capacity of %v has become %v", ids, ids[n:n+2])
			}
		}
	}
	n := len(entries)
	if !reflect.DeepEqual(entries[n:n+2], roomy()[n:n+2]) {
		t.Errorf("the unused capacity of the entries has become %v", entries[n:n+2])
	}
}

// P27.4: Print and Line modify neither a calendar nor the unused capacity of its
// slices.
func TestPrintAndLineModifyNothing(t *testing.T) {
	k := api.Calendar{Year: 2024, Entries: used(roomy())}
	for range 3 {
		if text := ordotext.Print(k); text != smallText {
			t.Errorf("the text is %q", text)
		}
		lines := strings.Split(smallText, "\n")
		for i, e := range k.Entries {
			if line := ordotext.Line(e); line != lines[1+i] {
				t.Errorf("the line of %v is %q", e, line)
			}
		}
		if !same(k, small()) {
			t.Errorf("the calendar has become %v", k)
		}
		expectUnused(t, k.Entries)
	}
}

// P27.4: texts and lines remain as they are when the calendar from which they were
// printed changes.
func TestTextsShareNoMemory(t *testing.T) {
	k := small()
	text, line := ordotext.Print(k), ordotext.Line(k.Entries[1])
	spoil(k)
	if text != smallText || line != strings.Split(smallText, "\n")[2] {
		t.Errorf("the text has become %q, and the line %q", text, line)
	}
	if again := ordotext.Print(small()); again != smallText {
		t.Errorf("the next text is %q", again)
	}
}

// P27.4: calendars that were parsed share no memory with each other, also none that
// is not used yet, and a text is the same after Parse.
func TestCalendarsShareNoMemory(t *testing.T) {
	text := strings.Clone(smallText)
	first, _, _ := ordotext.Parse(text)
	second, _, _ := ordotext.Parse(text)
	for i := range first.Entries {
		e := &first.Entries[i]
		e.Commem, e.Omitted = append(e.Commem, "junk"), append(e.Omitted, "junk")
	}
	spoil(first)
	first.Entries = append(first.Entries, junk)
	if !same(second, small()) {
		t.Errorf("another calendar has become %v", second)
	}
	if third, _, _ := ordotext.Parse(text); !same(third, small()) {
		t.Errorf("the next calendar is %v", third)
	}
	if text != smallText {
		t.Errorf("the text has become %q", text)
	}
}

// P27.4: the slices of one calendar share no memory with each other, also none that is
// not used yet.
func TestSlicesOfACalendarAreApart(t *testing.T) {
	for i := range small().Entries {
		for place := range 2 {
			k, _, _ := ordotext.Parse(smallText)
			want := small()
			changed, other := &k.Entries[i].Commem, &want.Entries[i].Commem
			if place == 1 {
				changed, other = &k.Entries[i].Omitted, &want.Entries[i].Omitted
			}
			*changed = append(*changed, "junk")
			spoilIDs(*changed)
			*other = *changed
			if !same(k, want) {
				t.Errorf("the calendar has become %v", k)
			}
		}
	}
}

// P27.2, P27.4: the results of calls in turn, also after a text that is rejected.
func TestCallsInTurn(t *testing.T) {
	for range 3 {
		expectText(t, small(), smallText)
		expectRejected(t, smallText[:100], 100)
		expectText(t, api.Calendar{Year: 2000}, "calendar 2000\nend\n")
		expectRejected(t, smallText+"x", len(smallText))
	}
}
