package ordo_test

import (
	"slices"
	"testing"

	"computus/api"
	"computus/ordo"
)

// within returns a list of the same items within a longer one, and the longer one,
// so that there is something before the list and in its unused capacity.
func within[T any](l []T, item T) (part, whole []T) {
	whole = append([]T{item, item}, l...)
	whole = append(whole, slices.Repeat([]T{item}, 30+len(l))...)
	return whole[2 : 2+len(l)], whole
}

// other is an entry that is in no calendar.
func other(mark string) api.Entry {
	return api.Entry{Date: date(1, 1, 1), Weekday: 9, Season: mark, Week: 9, Kind: 9, Principal: mark, Rank: 99, From: date(2, 2, 2)}
}

// fill writes a mark into a list and its unused capacity.
func fill(l []string, mark string) {
	l = l[:cap(l)]
	for i := range l {
		l[i] = mark
	}
}

// spoil writes a mark into all lists of a calendar and their unused capacity.
func spoil(k api.Calendar, mark string) {
	for _, e := range k.Entries {
		fill(e.Commem, mark)
		fill(e.Omitted, mark)
	}
	entries := k.Entries[:cap(k.Entries)]
	for i := range entries {
		entries[i] = other(mark)
	}
}

// P23.4: Build does not modify the catalogue, in its length, before it, or in its
// unused capacity, whether there is a calendar or an error.
func TestCatalogueIsNotModified(t *testing.T) {
	for _, c := range append(someCatalogues()[:20], malformed()...) {
		var seasons []api.Season
		var feasts []api.Feast
		c.Seasons, seasons = within(c.Seasons, api.Season{ID: "other"})
		c.Feasts, feasts = within(c.Feasts, api.Feast{ID: "other"})
		seasonsBefore, feastsBefore := slices.Clone(seasons), slices.Clone(feasts)
		for _, year := range []int{2023, 2024, 1582} {
			k, _ := ordo.Build(c, year)
			spoil(k, "junk")
		}
		if !slices.Equal(seasons, seasonsBefore) || !slices.Equal(feasts, feastsBefore) {
			t.Errorf("the catalogue with %d feasts has been modified", len(c.Feasts))
		}
	}
}

// P23.1: seasons and feasts beyond the lists are no part of the catalogue, even if
// they are not well-formed.
func TestUnusedCapacityOfTheCatalogue(t *testing.T) {
	want := build(t, roman(), 2024)
	c := roman()
	c.Seasons, _ = within(c.Seasons, api.Season{ID: "-"})
	c.Feasts, _ = within(c.Feasts, api.Feast{ID: "-"})
	expectCalendar(t, c, 2024, want)
	c.Feasts = c.Feasts[:0]
	for _, e := range build(t, c, 2024).Entries {
		if e.Kind != api.Temporal || len(e.Commem)+len(e.Omitted) > 0 {
			t.Errorf("there are no feasts, but %+v", e)
		}
	}
}

// P23.4: Entry and Where do not modify the calendar, in the length of its lists,
// before them, or in their unused capacity.
func TestCalendarIsNotModified(t *testing.T) {
	for _, k := range []api.Calendar{strange(), build(t, roman(), 2022), build(t, manyLists(), 2024)} {
		var wholes [][]string
		var entries []api.Entry
		k.Entries, entries = within(k.Entries, other("before"))
		for i, e := range k.Entries {
			var commem, omitted []string
			k.Entries[i].Commem, commem = within(e.Commem, "before")
			k.Entries[i].Omitted, omitted = within(e.Omitted, "before")
			wholes = append(wholes, commem, omitted)
		}
		before, wholesBefore := copyOf(api.Calendar{Entries: entries}), copyOf(api.Calendar{Entries: entriesOf(wholes)})
		for _, e := range slices.Clone(k.Entries) {
			got, _ := ordo.Entry(k, e.Date.Month, e.Date.Day)
			fill(got.Commem, "junk")
			fill(got.Omitted, "junk")
			_, _ = append(got.Commem, "junk"), append(got.Omitted, "junk")
			ordo.Where(k, e.Principal)
		}
		ordo.Where(k, "unknown")
		ordo.Entry(k, 99, 99)
		if !same(api.Calendar{Entries: entries}, before) || !same(api.Calendar{Entries: entriesOf(wholes)}, wholesBefore) {
			t.Errorf("the calendar of %d has been modified", k.Year)
		}
	}
}

// entriesOf returns entries with lists, to compare these.
func entriesOf(lists [][]string) []api.Entry {
	var l []api.Entry
	for _, x := range lists {
		l = append(l, api.Entry{Commem: x})
	}
	return l
}

// manyLists returns a catalogue with several commemorations and several omitted
// feasts on the same days, to which feasts are moved, too.
func manyLists() api.Catalogue {
	c := anyCatalogue(77, 3, 200, true)
	c.Free = 2
	return c
}

// P23.2 and P23.4: entries beyond the list are no part of the calendar.
func TestUnusedCapacityOfTheCalendar(t *testing.T) {
	k := build(t, roman(), 2024)
	k.Entries = k.Entries[:31]
	expectNoEntry(t, k, 2, 1)
	expectNowhere(t, k, "joseph")
	expectWhere(t, k, "mary", date(2024, 1, 1))
	k.Entries = k.Entries[:1]
	k.Entries[0].Commem = ids("a", "b")[:1]
	k.Entries[0].Omitted = ids("c", "d")[:0]
	expectWhere(t, k, "a", date(2024, 1, 1))
	expectNowhere(t, k, "b", "c", "d")
	e, _ := ordo.Entry(k, 1, 1)
	if !slices.Equal(e.Commem, ids("a")) || len(e.Omitted) != 0 {
		t.Errorf("entry = %+v", e)
	}
}

// P23.4: the calendar is new memory, whatever the caller does with those of earlier
// calls.
func TestCalendarsAreNewlyAllocated(t *testing.T) {
	for _, c := range append(someCatalogues()[:20], manyLists()) {
		for _, year := range []int{2023, 2024} {
			first, errno := ordo.Build(c, year)
			if errno != api.OK {
				continue
			}
			want, second := copyOf(first), build(t, c, year)
			spoil(first, "junk")
			_ = append(first.Entries[:1], other("junk"))
			if !same(second, want) {
				t.Errorf("the calendar of %d has been modified", year)
			}
			expectCalendar(t, c, year, want)
		}
	}
}

// P23.4: the lists of the entries of a calendar share no memory with one another,
// not even their unused capacity: each keeps the mark that is its own, and does not
// run over another one when it grows.
func TestListsOfACalendarShareNoMemory(t *testing.T) {
	for _, c := range []api.Catalogue{roman(), manyLists(), anyCatalogue(5, 2, 300, true)} {
		k, errno := ordo.Build(c, 2022)
		if errno != api.OK {
			t.Fatalf("Build: error %v", errno)
		}
		var lists [][]string
		for _, e := range k.Entries {
			lists = append(lists, e.Commem, e.Omitted)
		}
		marks := roomyMarks(len(lists))
		for i, l := range lists {
			fill(l, marks[i])
		}
		for i, l := range lists {
			_ = append(l, marks[i], marks[i])
		}
		for i, l := range lists {
			for _, mark := range l[:cap(l)] {
				if mark != marks[i] {
					t.Fatalf("list %s shares memory with list %s", marks[i], mark)
				}
			}
		}
	}
}

// roomyMarks returns n different marks.
func roomyMarks(n int) []string {
	var l []string
	for i := range n {
		l = append(l, string(rune('a'+i%26))+string(rune('a'+i/26)))
	}
	return l
}

// P23.4: the lists of the result of Entry are new memory: they share none with the
// calendar, with each other, or with an earlier result, even if they are empty.
func TestEntriesAreNewlyAllocated(t *testing.T) {
	for _, size := range []int{0, 1, 2, 5, 100} {
		commem, _ := within(slices.Repeat(ids("a"), size), "junk")
		omitted, _ := within(slices.Repeat(ids("b"), size), "junk")
		k := api.Calendar{Entries: []api.Entry{{Date: date(2024, 5, 6), Principal: "c", Commem: commem, Omitted: omitted}}}
		want := copyOf(k).Entries[0]
		first, _ := ordo.Entry(k, 5, 6)
		second, _ := ordo.Entry(k, 5, 6)
		fill(first.Commem, "x")
		fill(first.Omitted, "y")
		_, _ = append(first.Commem, "x"), append(first.Omitted, "y")
		if slices.Contains(first.Commem[:cap(first.Commem)], "y") || slices.Contains(first.Omitted[:cap(first.Omitted)], "x") {
			t.Errorf("the lists of a result share memory: %+v", first)
		}
		if !sameEntry(second, want) || !sameEntry(k.Entries[0], want) {
			t.Errorf("%+v has been modified: %+v, %+v", want, second, k.Entries[0])
		}
		// What the caller does with the calendar afterwards does not change the result.
		fill(commem, "z")
		fill(omitted, "z")
		k.Entries[0] = other("z")
		if !sameEntry(second, want) {
			t.Errorf("%+v shares memory with the calendar: %+v", want, second)
		}
	}
}

// P23.4: the calendar does not change with the catalogue after the call.
func TestCalendarDoesNotChangeWithTheCatalogue(t *testing.T) {
	c := manyLists()
	k := build(t, c, 2024)
	want := copyOf(k)
	for i := range c.Feasts {
		c.Feasts[i] = api.Feast{ID: "junk"}
	}
	for i := range c.Seasons {
		c.Seasons[i] = api.Season{ID: "junk"}
	}
	if !same(k, want) {
		t.Error("the calendar has been modified")
	}
	expectError(t, c, 2024, api.ErrCatalogue)
	expectCalendar(t, manyLists(), 2024, want)
}

// P23.1 and P23.4: the results of calls in turn depend on their arguments only.
func TestResultsOfCallsInTurn(t *testing.T) {
	a, b := build(t, roman(), 2024), build(t, manyLists(), 2022)
	for range 3 {
		expectCalendar(t, roman(), 2024, a)
		expectError(t, api.Catalogue{}, 2024, api.ErrCatalogue)
		expectCalendar(t, manyLists(), 2022, b)
		expectError(t, roman(), 1582, api.ErrRange)
		expectError(t, oneSeason(9, 1, feastOf("a", 1, api.Transfer, fixed(6, 1))), 2024, api.ErrNoFreeDay)
		expectWhere(t, a, "annunciation", date(2024, 4, 8))
		expectNowhere(t, b, "annunciation")
		expectNoEntry(t, b, 2, 29)
		expectEntry(t, a, 2, 29, a.Entries[59])
	}
}
