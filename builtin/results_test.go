package builtin_test

import (
	"slices"
	"testing"

	"computus/api"
	"computus/builtin"
	"computus/ordo"
)

// copyOf returns a copy of a catalogue.
func copyOf(c api.Catalogue) api.Catalogue {
	return api.Catalogue{Free: c.Free, Seasons: slices.Clone(c.Seasons), Feasts: slices.Clone(c.Feasts)}
}

// same reports whether two catalogues are the same.
func same(a, b api.Catalogue) bool {
	return a.Free == b.Free && slices.Equal(a.Seasons, b.Seasons) && slices.Equal(a.Feasts, b.Feasts)
}

// junkAnchor is an anchor all of whose fields are unlike those of the tables.
func junkAnchor() api.Anchor {
	return api.Anchor{Kind: 9, Month: 99, Day: 99, Offset: 99, Weekday: 99, Count: 99}
}

func junkSeason() api.Season {
	return api.Season{ID: "junk", Sunday: 99, Weekday: 99, Start: junkAnchor()}
}

func junkFeast() api.Feast {
	return api.Feast{ID: "junk", Rank: 99, Policy: 99, At: junkAnchor()}
}

// fill writes an item into a list and its unused capacity, and appends to it.
func fill[T any](l []T, item T) {
	_ = append(l, item)
	l = l[:cap(l)]
	for i := range l {
		l[i] = item
	}
	_ = append(l[:0], item, item)
	_ = append(l, item)
}

// P24.3: what the caller does with a catalogue changes no later result, and none
// that was returned before.
func TestCataloguesAreNewlyAllocated(t *testing.T) {
	before := builtin.Catalogue()
	for range 3 {
		c := builtin.Catalogue()
		fill(c.Seasons, junkSeason())
		fill(c.Feasts, junkFeast())
		expectCatalogue(t, before)
		expectCatalogue(t, builtin.Catalogue())
		expectNames(t, builtin.Names())
	}
}

// P24.3: neither does a change of each single field.
func TestSingleFieldsAreNewlyAllocated(t *testing.T) {
	before := builtin.Catalogue()
	c := builtin.Catalogue()
	c.Free++
	fields := func(a *api.Anchor) []*int {
		return []*int{&a.Kind, &a.Month, &a.Day, &a.Offset, &a.Weekday, &a.Count}
	}
	for i := range c.Seasons {
		s := &c.Seasons[i]
		s.ID += "-2"
		for _, field := range append(fields(&s.Start), &s.Sunday, &s.Weekday) {
			*field++
		}
	}
	for i := range c.Feasts {
		f := &c.Feasts[i]
		f.ID += "-2"
		for _, field := range append(fields(&f.At), &f.Rank, &f.Policy) {
			*field++
		}
	}
	expectCatalogue(t, before)
	expectCatalogue(t, builtin.Catalogue())
	expectNames(t, builtin.Names())
}

// P24.3: what the caller does with the names changes no later result, and none that
// was returned before.
func TestNamesAreNewlyAllocated(t *testing.T) {
	before, catalogue := builtin.Names(), builtin.Catalogue()
	for range 3 {
		names := builtin.Names()
		_ = append(names[:8], "junk")
		expectNames(t, before)
		fill(names, "junk")
		expectNames(t, before)
		expectNames(t, builtin.Names())
		expectCatalogue(t, catalogue)
		expectCatalogue(t, builtin.Catalogue())
	}
}

// P24.3: the items of a list remain if the caller appends to a part of another
// result.
func TestAppendingToPartsOfResults(t *testing.T) {
	before := builtin.Catalogue()
	c := builtin.Catalogue()
	_ = append(c.Seasons[:1], junkSeason())
	_ = append(c.Feasts[:1], junkFeast())
	if c.Seasons[1] != junkSeason() || c.Feasts[1] != junkFeast() {
		t.Error("the lists of a result have no memory of their own")
	}
	expectCatalogue(t, before)
	expectCatalogue(t, builtin.Catalogue())
}

// P24.3: the lists of one result share no memory, not even their unused capacity.
func TestListsOfAResultShareNoMemory(t *testing.T) {
	c := builtin.Catalogue()
	fill(c.Seasons, junkSeason())
	if !slices.Equal(c.Feasts, wantFeasts()) {
		t.Error("the feasts changed with the seasons")
	}
	c = builtin.Catalogue()
	fill(c.Feasts, junkFeast())
	if !slices.Equal(c.Seasons, wantSeasons()) {
		t.Error("the seasons changed with the feasts")
	}
}

// P24.2 and P24.3: the calendars of a catalogue that the caller has changed, and
// those of later ones, are those of each.
func TestCalendarsOfAChangedCatalogue(t *testing.T) {
	changed := builtin.Catalogue()
	untouched := copyOf(changed)
	changed.Free = 9
	changed.Seasons[0].ID = "other"
	changed.Feasts[6].Policy = api.Omit
	if _, errno := ordo.Build(changed, 2024); errno != api.ErrNoFreeDay {
		t.Errorf("with Free 9, the error is %v", errno)
	}
	if c := builtin.Catalogue(); !same(c, untouched) {
		t.Errorf("the catalogue has changed to %+v", c)
	}
	if d, ok := ordo.Where(calendarOf(t, 2024), "annunciation"); !ok || d != date(2024, 4, 8) {
		t.Errorf("the Annunciation is on %v", d)
	}
}

// P24.3: results do not depend on earlier calls.
func TestCallsInTurn(t *testing.T) {
	for range 100 {
		expectCatalogue(t, builtin.Catalogue())
		expectNames(t, builtin.Names())
		expectNames(t, builtin.Names())
		expectCatalogue(t, builtin.Catalogue())
	}
}
