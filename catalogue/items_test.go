package catalogue_test

import (
	"math"
	"strings"
	"testing"

	"computus/api"
	"computus/catalogue"
)

const (
	least = math.MinInt
	most  = math.MaxInt
)

// goodAnchors lists well-formed anchors of each kind.
func goodAnchors() []api.Anchor {
	return []api.Anchor{
		{Kind: api.Fixed, Month: 12, Day: 25},
		{Kind: api.Fixed, Month: 1, Day: 1},
		{Kind: api.Fixed, Month: 2, Day: 28},
		{Kind: api.Paschal},
		{Kind: api.Paschal, Offset: -80},
		{Kind: api.Paschal, Offset: 250},
		{Kind: api.Nth, Month: 11, Day: 27, Weekday: api.Sunday, Count: 1},
		{Kind: api.Nth, Month: 5, Day: 31, Weekday: api.Monday, Count: -1},
		{Kind: api.Nth, Month: 7, Day: 4, Weekday: api.Saturday, Count: 8},
	}
}

// badAnchors lists anchors that are not well-formed.
func badAnchors() []api.Anchor {
	return []api.Anchor{
		{},
		{Kind: 4, Month: 12, Day: 25},
		{Kind: -1, Month: 12, Day: 25},
		{Kind: api.Fixed},
		{Kind: api.Fixed, Month: 2, Day: 29},
		{Kind: api.Fixed, Month: 13, Day: 1},
		{Kind: api.Fixed, Month: 12, Day: 25, Offset: 1},
		{Kind: api.Fixed, Month: 12, Day: 25, Count: 1},
		{Kind: api.Paschal, Offset: -81},
		{Kind: api.Paschal, Offset: 251},
		{Kind: api.Paschal, Month: 12, Day: 25},
		{Kind: api.Paschal, Weekday: 1},
		{Kind: api.Nth, Month: 11, Day: 27},
		{Kind: api.Nth, Month: 11, Day: 27, Weekday: 7, Count: 1},
		{Kind: api.Nth, Month: 11, Day: 27, Weekday: -1, Count: 1},
		{Kind: api.Nth, Month: 7, Day: 4, Count: 9},
		{Kind: api.Nth, Month: 7, Day: 4, Count: -9},
		{Kind: api.Nth, Month: 12, Day: 26, Count: 1},
		{Kind: api.Nth, Month: 11, Day: 27, Offset: 1, Count: 1},
		{Kind: least, Month: least, Day: least, Offset: least, Weekday: least, Count: least},
		{Kind: most, Month: most, Day: most, Offset: most, Weekday: most, Count: most},
	}
}

// goodSeason is a season that is well-formed, each of whose fields differs from
// the others.
func goodSeason() api.Season {
	return api.Season{ID: "advent", Sunday: 2, Weekday: 7, Start: api.Anchor{Kind: api.Nth, Month: 11, Day: 27, Weekday: api.Sunday, Count: 1}}
}

// goodFeast is a feast that is well-formed, each of whose fields differs from the
// others.
func goodFeast() api.Feast {
	return api.Feast{ID: "joseph", Rank: 5, Policy: api.Transfer, At: api.Anchor{Kind: api.Fixed, Month: 3, Day: 19}}
}

// numbers lists integers next to the bounds of ranks and policies, and integers
// that are far from them but within them if their high bits are lost.
func numbers() []int {
	l := []int{1 << 8, 1<<8 + 1, 1<<8 + 5, 1 << 16, 1<<16 + 3, 1 << 32, 1<<32 + 1, 1<<32 + 9, -1 << 32, -1<<32 + 1, 1 << 62, 1<<62 + 1, most, most - 1, least, least + 1, least + 2, least + 9}
	for n := -300; n <= 300; n++ {
		l = append(l, n)
	}
	return l
}

// expectSeason tests whether a season is well-formed.
func expectSeason(t *testing.T, s api.Season, want bool) {
	t.Helper()
	if got := catalogue.Season(s); got != want {
		t.Errorf("Season(%+v) = %v, want %v", s, got, want)
	}
}

// expectFeast tests whether a feast is well-formed.
func expectFeast(t *testing.T, f api.Feast, want bool) {
	t.Helper()
	if got := catalogue.Feast(f); got != want {
		t.Errorf("Feast(%+v) = %v, want %v", f, got, want)
	}
}

// P17.1: seasons and feasts as they occur, and the zero values.
func TestKnownItems(t *testing.T) {
	expectSeason(t, goodSeason(), true)
	expectSeason(t, api.Season{ID: "lent", Sunday: 2, Weekday: 6, Start: api.Anchor{Kind: api.Paschal, Offset: -46}}, true)
	expectSeason(t, api.Season{ID: "christmas", Sunday: 3, Weekday: 6, Start: api.Anchor{Kind: api.Fixed, Month: 12, Day: 25}}, true)
	expectSeason(t, api.Season{}, false)
	expectFeast(t, goodFeast(), true)
	expectFeast(t, api.Feast{ID: "trinity", Rank: 1, Policy: api.Commemorate, At: api.Anchor{Kind: api.Paschal, Offset: 56}}, true)
	expectFeast(t, api.Feast{ID: "andrew", Rank: 4, Policy: api.Omit, At: api.Anchor{Kind: api.Fixed, Month: 11, Day: 30}}, true)
	expectFeast(t, api.Feast{}, false)
}

// P17.1: the ID of a season and of a feast is an identifier.
func TestItemsOfIDs(t *testing.T) {
	for _, x := range []struct {
		id   string
		want bool
	}{
		{"", false}, {"a", true}, {strings.Repeat("a", 40), true}, {strings.Repeat("a", 41), false}, {"st-john-2", true},
		{"2nd", false}, {"a--b", false}, {"a-", false}, {"-a", false}, {"A", false}, {"a b", false}, {"a\x00", false}, {"\xff", false}, {"é", false},
	} {
		s, f := goodSeason(), goodFeast()
		s.ID, f.ID = x.id, x.id
		expectSeason(t, s, x.want)
		expectFeast(t, f, x.want)
	}
}

// P17.1: each of the two ranks of a season is from 1 to 9.
func TestSeasonOfRanks(t *testing.T) {
	for _, x := range []struct {
		rank int
		want bool
	}{
		{0, false}, {1, true}, {2, true}, {8, true}, {9, true}, {10, false}, {-1, false}, {-9, false}, {least, false}, {most, false},
	} {
		s := goodSeason()
		s.Sunday = x.rank
		expectSeason(t, s, x.want)
		s = goodSeason()
		s.Weekday = x.rank
		expectSeason(t, s, x.want)
	}
	for _, rank := range numbers() {
		s := goodSeason()
		s.Sunday = rank
		expectSeason(t, s, rank >= 1 && rank <= 9)
		s = goodSeason()
		s.Weekday = rank
		expectSeason(t, s, rank >= 1 && rank <= 9)
	}
}

// P17.1: neither rank of a season limits the other one.
func TestSeasonOfPairsOfRanks(t *testing.T) {
	for sunday := -1; sunday <= 11; sunday++ {
		for weekday := -1; weekday <= 11; weekday++ {
			s := goodSeason()
			s.Sunday, s.Weekday = sunday, weekday
			expectSeason(t, s, sunday >= 1 && sunday <= 9 && weekday >= 1 && weekday <= 9)
		}
	}
}

// P17.1: the rank of a feast is from 1 to 9.
func TestFeastOfRanks(t *testing.T) {
	for _, x := range []struct {
		rank int
		want bool
	}{
		{0, false}, {1, true}, {2, true}, {8, true}, {9, true}, {10, false}, {-1, false}, {-9, false}, {least, false}, {most, false},
	} {
		f := goodFeast()
		f.Rank = x.rank
		expectFeast(t, f, x.want)
	}
	for _, rank := range numbers() {
		f := goodFeast()
		f.Rank = rank
		expectFeast(t, f, rank >= 1 && rank <= 9)
	}
}

// P17.1: the policy of a feast is Transfer, Commemorate or Omit.
func TestFeastOfPolicies(t *testing.T) {
	for _, x := range []struct {
		policy int
		want   bool
	}{
		{0, false}, {1, true}, {2, true}, {3, true}, {4, false}, {5, false}, {-1, false}, {-2, false}, {-3, false}, {least, false}, {most, false},
	} {
		f := goodFeast()
		f.Policy = x.policy
		expectFeast(t, f, x.want)
	}
	for _, policy := range numbers() {
		f := goodFeast()
		f.Policy = policy
		expectFeast(t, f, policy >= 1 && policy <= 3)
	}
}

// P17.1: neither the rank nor the policy of a feast limits the other one.
func TestFeastOfRanksAndPolicies(t *testing.T) {
	for rank := -1; rank <= 11; rank++ {
		for policy := -1; policy <= 5; policy++ {
			f := goodFeast()
			f.Rank, f.Policy = rank, policy
			expectFeast(t, f, rank >= 1 && rank <= 9 && policy >= 1 && policy <= 3)
		}
	}
}

// P17.1: the anchor of a season and of a feast is well-formed.
func TestItemsOfAnchors(t *testing.T) {
	for _, a := range goodAnchors() {
		s, f := goodSeason(), goodFeast()
		s.Start, f.At = a, a
		expectSeason(t, s, true)
		expectFeast(t, f, true)
	}
	for _, a := range badAnchors() {
		s, f := goodSeason(), goodFeast()
		s.Start, f.At = a, a
		expectSeason(t, s, false)
		expectFeast(t, f, false)
	}
}

// P17.1: items each of whose numbers is the least or the greatest integer.
func TestItemsOfExtremes(t *testing.T) {
	for _, n := range []int{least, most} {
		for _, a := range append(goodAnchors(), badAnchors()...) {
			expectSeason(t, api.Season{ID: "a", Sunday: n, Weekday: n, Start: a}, false)
			expectFeast(t, api.Feast{ID: "a", Rank: n, Policy: n, At: a}, false)
		}
		for _, a := range []api.Anchor{
			{Kind: n, Month: 12, Day: 25},
			{Kind: api.Fixed, Month: n, Day: 25},
			{Kind: api.Fixed, Month: 12, Day: n},
			{Kind: api.Paschal, Offset: n},
			{Kind: api.Nth, Month: 11, Day: 27, Weekday: n, Count: 1},
			{Kind: api.Nth, Month: 11, Day: 27, Count: n},
		} {
			s, f := goodSeason(), goodFeast()
			s.Start, f.At = a, a
			expectSeason(t, s, false)
			expectFeast(t, f, false)
		}
	}
}
