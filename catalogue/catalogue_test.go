package catalogue_test

import (
	"strconv"
	"strings"
	"testing"

	"computus/api"
	"computus/catalogue"
)

// seasons returns n well-formed seasons with distinct identifiers.
func seasons(n int) []api.Season {
	var l []api.Season
	for i := range n {
		l = append(l, api.Season{ID: "season-" + strconv.Itoa(i), Sunday: 1 + i%9, Weekday: 9 - i%9, Start: goodAnchors()[i%9]})
	}
	return l
}

// feasts returns n well-formed feasts with distinct identifiers.
func feasts(n int) []api.Feast {
	var l []api.Feast
	for i := range n {
		l = append(l, api.Feast{ID: "feast-" + strconv.Itoa(i), Rank: 1 + i%9, Policy: 1 + i%3, At: goodAnchors()[i%9]})
	}
	return l
}

// sized returns a catalogue with a number of seasons and a number of feasts.
func sized(s, f int) api.Catalogue {
	return api.Catalogue{Free: 5, Seasons: seasons(s), Feasts: feasts(f)}
}

// expectCheck tests whether a catalogue is well-formed. It checks twice, as
// nothing may remain of what occurred in the first check.
func expectCheck(t *testing.T, what string, c api.Catalogue, want bool) {
	t.Helper()
	errno := api.ErrCatalogue
	if want {
		errno = api.OK
	}
	for range 2 {
		if got := catalogue.Check(c); got != errno {
			t.Errorf("%s: Check = %v, want %v", what, got, errno)
		}
	}
}

// P17.2: a small catalogue, and one of each of the ordinary sizes.
func TestCheckOfKnownCatalogues(t *testing.T) {
	expectCheck(t, "small", api.Catalogue{
		Free: 5,
		Seasons: []api.Season{
			{ID: "ordinary-time", Sunday: 5, Weekday: 8, Start: api.Anchor{Kind: api.Paschal, Offset: 50}},
			{ID: "advent", Sunday: 2, Weekday: 7, Start: api.Anchor{Kind: api.Nth, Month: 11, Day: 27, Count: 1}},
		},
		Feasts: []api.Feast{
			{ID: "joseph", Rank: 1, Policy: api.Transfer, At: api.Anchor{Kind: api.Fixed, Month: 3, Day: 19}},
			{ID: "ascension", Rank: 1, Policy: api.Commemorate, At: api.Anchor{Kind: api.Paschal, Offset: 39}},
		},
	}, true)
	expectCheck(t, "zero", api.Catalogue{}, false)
	for s := 1; s <= 20; s++ {
		for _, f := range []int{0, 1, 2, 25, 400} {
			expectCheck(t, "ordinary", sized(s, f), true)
		}
	}
}

// P17.2: Free is from 0 to 9.
func TestCheckOfFree(t *testing.T) {
	for _, x := range []struct {
		free int
		want bool
	}{
		{-2, false}, {-1, false}, {0, true}, {1, true}, {8, true}, {9, true}, {10, false}, {11, false}, {least, false}, {most, false},
	} {
		c := sized(2, 2)
		c.Free = x.free
		expectCheck(t, "free "+strconv.Itoa(x.free), c, x.want)
	}
	for _, free := range numbers() {
		c := sized(1, 0)
		c.Free = free
		expectCheck(t, "free "+strconv.Itoa(free), c, free >= 0 && free <= 9)
	}
}

// P17.2: there are 1 to 20 seasons.
func TestCheckOfNumbersOfSeasons(t *testing.T) {
	for _, f := range []int{0, 1, 400} {
		for _, s := range []int{0, 1, 2, 19, 20, 21, 22, 40, 256, 257, 276, 1<<16 + 1} {
			expectCheck(t, strconv.Itoa(s)+" seasons, "+strconv.Itoa(f)+" feasts", sized(s, f), s >= 1 && s <= 20)
		}
	}
}

// P17.2: there are at most 400 feasts.
func TestCheckOfNumbersOfFeasts(t *testing.T) {
	for _, s := range []int{1, 20} {
		for _, f := range []int{0, 1, 20, 21, 255, 256, 257, 379, 380, 381, 399, 400, 401, 402, 800, 1 << 16, 1<<16 + 1} {
			expectCheck(t, strconv.Itoa(s)+" seasons, "+strconv.Itoa(f)+" feasts", sized(s, f), f <= 400)
		}
	}
}

// P17.2: lists that are nil, and lists that are empty but have capacity.
func TestCheckOfEmptyLists(t *testing.T) {
	for _, x := range []struct {
		what string
		s    []api.Season
		f    []api.Feast
		want bool
	}{
		{"both nil", nil, nil, false},
		{"both empty", []api.Season{}, []api.Feast{}, false},
		{"no seasons with capacity", seasons(3)[:0], feasts(3), false},
		{"nil seasons", nil, feasts(3), false},
		{"nil feasts", seasons(3), nil, true},
		{"empty feasts", seasons(3), []api.Feast{}, true},
		{"no feasts with capacity", seasons(3), feasts(3)[:0], true},
	} {
		expectCheck(t, x.what, api.Catalogue{Free: 5, Seasons: x.s, Feasts: x.f}, x.want)
	}
}

// P17.2: what lies in the capacity beyond the lists is no part of the catalogue.
func TestCheckOfUnusedCapacity(t *testing.T) {
	c := sized(3, 3)
	c.Seasons[2], c.Feasts[2] = api.Season{ID: "-"}, api.Feast{ID: "-"}
	expectCheck(t, "whole", c, false)
	c.Seasons, c.Feasts = c.Seasons[:2], c.Feasts[:2]
	expectCheck(t, "part", c, true)
	c = sized(30, 500)
	c.Seasons, c.Feasts = c.Seasons[:20], c.Feasts[:400]
	expectCheck(t, "most", c, true)
}

// badSeasons lists seasons that are not well-formed, one for each part of the
// definition.
func badSeasons() []api.Season {
	l := make([]api.Season, 5)
	for i := range l {
		l[i] = goodSeason()
	}
	l[0].ID = "a-"
	l[1].ID = ""
	l[2].Sunday = 0
	l[3].Weekday = 10
	l[4].Start.Month = 13
	return l
}

// badFeasts lists feasts that are not well-formed, one for each part of the
// definition.
func badFeasts() []api.Feast {
	l := make([]api.Feast, 6)
	for i := range l {
		l[i] = goodFeast()
	}
	l[0].ID = "2nd"
	l[1].ID = ""
	l[2].Rank = 0
	l[3].Rank = 10
	l[4].Policy = 4
	l[5].At.Day = 0
	return l
}

// P17.2: one season that is not well-formed, in each place.
func TestCheckOfBadSeasons(t *testing.T) {
	for _, s := range badSeasons() {
		for n := 1; n <= 20; n++ {
			for i := range n {
				c := sized(n, 2)
				c.Seasons[i] = s
				expectCheck(t, "season "+strconv.Itoa(i)+" of "+strconv.Itoa(n), c, false)
			}
		}
	}
}

// P17.2: one feast that is not well-formed, in each place.
func TestCheckOfBadFeasts(t *testing.T) {
	for _, f := range badFeasts() {
		for _, n := range []int{1, 2, 3, 25, 400} {
			for i := range n {
				c := sized(1, n)
				c.Feasts[i] = f
				expectCheck(t, "feast "+strconv.Itoa(i)+" of "+strconv.Itoa(n), c, false)
			}
		}
	}
}

// P17.2: good items in the same places are no hindrance.
func TestCheckOfGoodItems(t *testing.T) {
	for i := range 20 {
		c := sized(20, 400)
		c.Seasons[i] = goodSeason()
		c.Feasts[i] = goodFeast()
		c.Feasts[399-i] = api.Feast{ID: "other", Rank: 9, Policy: api.Omit, At: api.Anchor{Kind: api.Paschal}}
		expectCheck(t, "good items", c, true)
	}
}

// P17.2: the same identifier in two seasons.
func TestCheckOfEqualSeasons(t *testing.T) {
	for _, n := range []int{2, 3, 20} {
		for i := range n {
			for j := range n {
				c := sized(n, 3)
				c.Seasons[i].ID = c.Seasons[j].ID
				expectCheck(t, "seasons "+strconv.Itoa(i)+" and "+strconv.Itoa(j), c, i == j)
			}
		}
	}
}

// P17.2: the same identifier in two feasts: in all pairs of a few, and next to
// each other or first and last of many.
func TestCheckOfEqualFeasts(t *testing.T) {
	for i := range 25 {
		for j := range 25 {
			c := sized(2, 25)
			c.Feasts[i].ID = c.Feasts[j].ID
			expectCheck(t, "feasts "+strconv.Itoa(i)+" and "+strconv.Itoa(j), c, i == j)
		}
	}
	for i := range 399 {
		c := sized(1, 400)
		c.Feasts[i].ID = c.Feasts[i+1].ID
		expectCheck(t, "neighbours "+strconv.Itoa(i), c, false)
		c = sized(1, 400)
		c.Feasts[399].ID = c.Feasts[i].ID
		expectCheck(t, "the last one and "+strconv.Itoa(i), c, false)
	}
}

// P17.2: the same identifier in a season and a feast.
func TestCheckOfSeasonsThatEqualFeasts(t *testing.T) {
	for i := range 20 {
		for _, j := range []int{0, 1, 2, 199, 398, 399} {
			c := sized(20, 400)
			c.Feasts[j].ID = c.Seasons[i].ID
			expectCheck(t, "feast "+strconv.Itoa(j)+" named as season "+strconv.Itoa(i), c, false)
			c = sized(20, 400)
			c.Seasons[i].ID = c.Feasts[j].ID
			expectCheck(t, "season "+strconv.Itoa(i)+" named as feast "+strconv.Itoa(j), c, false)
		}
	}
	c := sized(1, 1)
	c.Feasts[0].ID = c.Seasons[0].ID
	expectCheck(t, "the only two", c, false)
}

// P17.2: items that differ in nothing but the identifier, and items that have
// nothing but the identifier in common.
func TestCheckOfItemsThatDifferInOneField(t *testing.T) {
	s, f := goodSeason(), goodFeast()
	other, laterFeast := s, f
	other.ID, laterFeast.ID = "advent-2", "joseph-2"
	expectCheck(t, "other identifiers", api.Catalogue{Seasons: []api.Season{s, other}, Feasts: []api.Feast{f, laterFeast}}, true)
	expectCheck(t, "equal seasons", api.Catalogue{Seasons: []api.Season{s, s}}, false)
	expectCheck(t, "equal feasts", api.Catalogue{Seasons: []api.Season{s}, Feasts: []api.Feast{f, f}}, false)
	other = api.Season{ID: s.ID, Sunday: 9, Weekday: 9, Start: api.Anchor{Kind: api.Paschal}}
	laterFeast = api.Feast{ID: f.ID, Rank: 9, Policy: api.Omit, At: api.Anchor{Kind: api.Paschal}}
	expectCheck(t, "seasons with the same identifier", api.Catalogue{Seasons: []api.Season{s, other}}, false)
	expectCheck(t, "feasts with the same identifier", api.Catalogue{Seasons: []api.Season{s}, Feasts: []api.Feast{f, laterFeast}}, false)
}

// P17.2: identifiers are distinct if any part of them differs.
func TestCheckOfSimilarIdentifiers(t *testing.T) {
	long := strings.Repeat("x", 39)
	for _, x := range [][2]string{{"a", "a-a"}, {"a1", "a-1"}, {"a-1", "a-01"}, {"ab", "ba"}, {long + "a", long + "b"}, {"a" + long, "b" + long}, {long, long + "x"}, {"a-b-c", "a-bc"}} {
		s, other := goodSeason(), goodSeason()
		s.ID, other.ID = x[0], x[1]
		expectCheck(t, x[0]+" and "+x[1], api.Catalogue{Seasons: []api.Season{s, other}}, true)
		f := goodFeast()
		f.ID = x[1]
		expectCheck(t, x[0]+" and "+x[1], api.Catalogue{Seasons: []api.Season{s}, Feasts: []api.Feast{f}}, true)
	}
}
