package catalogue_test

import (
	"slices"
	"strings"
	"testing"

	"computus/api"
	"computus/catalogue"
)

// expectFind tests the index of a feast.
func expectFind(t *testing.T, c api.Catalogue, id string, want int) {
	t.Helper()
	if got := catalogue.Find(c, id); got != want {
		t.Errorf("Find(%q) = %d, want %d", id, got, want)
	}
}

// named returns a catalogue whose seasons and feasts have nothing but
// identifiers, so that it is not well-formed.
func named(seasons, feasts []string) api.Catalogue {
	var c api.Catalogue
	for _, id := range seasons {
		c.Seasons = append(c.Seasons, api.Season{ID: id})
	}
	for _, id := range feasts {
		c.Feasts = append(c.Feasts, api.Feast{ID: id})
	}
	return c
}

// P17.3: every feast of a well-formed catalogue is found, and nothing else.
func TestFindInWellFormedCatalogues(t *testing.T) {
	for _, n := range []int{0, 1, 2, 25, 400} {
		c := sized(3, n)
		for i, f := range c.Feasts {
			expectFind(t, c, f.ID, i)
		}
		for _, s := range c.Seasons {
			expectFind(t, c, s.ID, -1)
		}
		for _, id := range []string{"", "feast", "feast-", "feast-400", "feast-00", "Feast-0", "feast-0 ", " feast-0", "feast-0\x00", "easter", "f"} {
			expectFind(t, c, id, -1)
		}
	}
}

// P17.3: the first one of several feasts that have the same ID.
func TestFindTheFirst(t *testing.T) {
	c := named(nil, []string{"a", "b", "a", "c", "b", "c", "a"})
	expectFind(t, c, "a", 0)
	expectFind(t, c, "b", 1)
	expectFind(t, c, "c", 3)
	expectFind(t, c, "d", -1)
	for i := range 400 {
		c := sized(1, 400)
		c.Feasts[399].ID = c.Feasts[i].ID
		expectFind(t, c, c.Feasts[i].ID, i)
	}
}

// P17.3: the ID of a season is found only if it is also a feast's.
func TestFindSeasons(t *testing.T) {
	c := named([]string{"lent", "advent", "joseph"}, []string{"easter", "joseph", "lent"})
	expectFind(t, c, "lent", 2)
	expectFind(t, c, "joseph", 1)
	expectFind(t, c, "easter", 0)
	expectFind(t, c, "advent", -1)
	expectFind(t, named([]string{"lent"}, nil), "lent", -1)
	expectFind(t, named([]string{""}, nil), "", -1)
}

// P17.3: catalogues, feasts and IDs that are not well-formed.
func TestFindInCataloguesThatAreNotWellFormed(t *testing.T) {
	expectFind(t, api.Catalogue{}, "", -1)
	expectFind(t, api.Catalogue{}, "a", -1)
	expectFind(t, api.Catalogue{Seasons: []api.Season{}, Feasts: []api.Feast{}}, "a", -1)
	c := named(nil, []string{"A", "2nd", "", "a--b", "", "\xff", "\ufffd", "a\x00b", "é", "2nd", strings.Repeat("x", 41)})
	for _, x := range []struct {
		id   string
		want int
	}{
		{"A", 0}, {"2nd", 1}, {"", 2}, {"a--b", 3}, {"\xff", 5}, {"\ufffd", 6}, {"a\x00b", 7}, {"é", 8}, {strings.Repeat("x", 41), 10},
		{"a", -1}, {"\xfe", -1}, {"a\x00", -1}, {"e\u0301", -1}, {strings.Repeat("x", 40), -1},
	} {
		expectFind(t, c, x.id, x.want)
	}
	many := sized(0, 1<<16+2)
	many.Free = -1
	expectFind(t, many, "feast-65537", 1<<16+1)
	expectFind(t, many, "feast-65538", -1)
}

// P17.3: feasts beyond the list are no part of the catalogue.
func TestFindInUnusedCapacity(t *testing.T) {
	c := sized(1, 3)
	c.Feasts = c.Feasts[:2]
	expectFind(t, c, "feast-1", 1)
	expectFind(t, c, "feast-2", -1)
}

// P17.4: no item of the lists is modified, neither in the lists nor in their
// unused capacity, whether the catalogue is well-formed or not.
func TestArgumentsAreNotModified(t *testing.T) {
	for _, x := range []struct {
		what   string
		change func(c *api.Catalogue)
	}{
		{"well-formed", func(c *api.Catalogue) {}},
		{"bad free", func(c *api.Catalogue) { c.Free = 10 }},
		{"bad season", func(c *api.Catalogue) { c.Seasons[1].Sunday = 0 }},
		{"bad feast", func(c *api.Catalogue) { c.Feasts[1].ID = "B" }},
		{"equal seasons", func(c *api.Catalogue) { c.Seasons[1].ID = c.Seasons[0].ID }},
		{"equal feasts", func(c *api.Catalogue) { c.Feasts[4].ID = c.Feasts[0].ID }},
		{"season as feast", func(c *api.Catalogue) { c.Feasts[4].ID = c.Seasons[0].ID }},
		{"not sorted", func(c *api.Catalogue) { slices.Reverse(c.Seasons); slices.Reverse(c.Feasts) }},
	} {
		c := sized(6, 10)
		x.change(&c)
		s, f, free := slices.Clone(c.Seasons), slices.Clone(c.Feasts), c.Free
		part := api.Catalogue{Free: free, Seasons: c.Seasons[:3], Feasts: c.Feasts[:5]}
		for _, d := range []api.Catalogue{c, part} {
			catalogue.Check(d)
			catalogue.Find(d, "feast-4")
			catalogue.Find(d, "absent")
			catalogue.Season(d.Seasons[1])
			catalogue.Feast(d.Feasts[1])
		}
		if !slices.Equal(c.Seasons, s) || !slices.Equal(c.Feasts, f) || c.Free != free {
			t.Errorf("%s: the catalogue has been modified", x.what)
		}
	}
}
