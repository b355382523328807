package occurrence_test

import (
	"slices"
	"strconv"
	"testing"

	"computus/api"
	"computus/candidate"
	"computus/gregorian"
	"computus/occurrence"
)

func fixed(month, day int) api.Anchor {
	return api.Anchor{Kind: api.Fixed, Month: month, Day: day}
}

func paschal(offset int) api.Anchor {
	return api.Anchor{Kind: api.Paschal, Offset: offset}
}

func nth(month, day, weekday, count int) api.Anchor {
	return api.Anchor{Kind: api.Nth, Month: month, Day: day, Weekday: weekday, Count: count}
}

// seasonOf returns a season with the ranks of its Sundays and of its other days.
func seasonOf(id string, sunday, weekday int, start api.Anchor) api.Season {
	return api.Season{ID: id, Sunday: sunday, Weekday: weekday, Start: start}
}

func feastOf(id string, rank, policy int, at api.Anchor) api.Feast {
	return api.Feast{ID: id, Rank: rank, Policy: policy, At: at}
}

// feast returns a feast on the day that all feasts of oneDay are on.
func feast(rank, policy int) api.Feast {
	return api.Feast{Rank: rank, Policy: policy, At: fixed(2, 6)}
}

// oneDay returns a catalogue with one season, all of whose days have the same rank,
// and with feasts on 6 February, which are given IDs.
func oneDay(rank int, feasts ...api.Feast) api.Catalogue {
	feasts = slices.Clone(feasts)
	for i := range feasts {
		feasts[i].ID = "feast-" + strconv.Itoa(i)
	}
	return api.Catalogue{Free: 5, Seasons: []api.Season{seasonOf("year", rank, rank, fixed(1, 1))}, Feasts: feasts}
}

// onTheDay returns the candidates of 6 February in a catalogue of oneDay.
func onTheDay(c api.Catalogue) []candidate.Candidate {
	l := list(temporal(0, c.Seasons[0].Sunday, c.Seasons[0].ID))
	for i, f := range c.Feasts {
		l = append(l, proper(i, f.Rank, f.ID))
	}
	return l
}

func temporal(index, rank int, id string) candidate.Candidate {
	return candidate.Candidate{Kind: 1, Index: index, Rank: rank, ID: id}
}

func proper(index, rank int, id string) candidate.Candidate {
	return candidate.Candidate{Kind: 2, Index: index, Rank: rank, ID: id}
}

func list(l ...candidate.Candidate) []candidate.Candidate {
	return l
}

func indices(l ...int) []int {
	return l
}

// same reports whether two results are the same; an empty list is the same as nil.
func same(a, b occurrence.Result) bool {
	return a.Principal == b.Principal && slices.Equal(a.Commem, b.Commem) && slices.Equal(a.Omitted, b.Omitted) && slices.Equal(a.Impeded, b.Impeded)
}

// copyOf returns a copy of a result.
func copyOf(r occurrence.Result) occurrence.Result {
	r.Commem, r.Omitted, r.Impeded = slices.Clone(r.Commem), slices.Clone(r.Omitted), slices.Clone(r.Impeded)
	return r
}

// expectResolve tests the result of Resolve.
func expectResolve(t *testing.T, c api.Catalogue, l []candidate.Candidate, want occurrence.Result) {
	t.Helper()
	if got := occurrence.Resolve(c, l); !same(got, want) {
		t.Errorf("Resolve of %v = %+v, want %+v", l[:min(len(l), 7)], got, want)
	}
}

// expectFree tests the result of Free.
func expectFree(t *testing.T, c api.Catalogue, r occurrence.Result, want bool) {
	t.Helper()
	if got := occurrence.Free(c, r); got != want {
		t.Errorf("Free of %+v, for Free %d, = %v", r, c.Free, got)
	}
}

// expectDisplace tests the result of Displace.
func expectDisplace(t *testing.T, c api.Catalogue, r, want occurrence.Result) {
	t.Helper()
	if got := occurrence.Displace(c, r); !same(got, want) {
		t.Errorf("Displace of %+v = %+v, want %+v", r, got, want)
	}
}

// ofDate returns the candidates of a date.
func ofDate(t *testing.T, c api.Catalogue, year, month, day int) []candidate.Candidate {
	t.Helper()
	n, _ := gregorian.ToDay(api.Date{Year: year, Month: month, Day: day})
	l, errno := candidate.Of(c, year, n)
	if errno != api.OK {
		t.Fatalf("Of %d-%d-%d: error %v", year, month, day, errno)
	}
	return l
}

// P21.1: the example of the chapter.
func TestExample(t *testing.T) {
	for _, policy := range []int{api.Transfer, api.Commemorate, api.Omit} {
		c := oneDay(6, feast(1, policy), feast(3, api.Transfer))
		want := occurrence.Result{Principal: proper(0, 1, "feast-0"), Impeded: indices(1)}
		expectResolve(t, c, onTheDay(c), want)
		expectResolve(t, c, ofDate(t, c, 2024, 2, 6), want)
		c = oneDay(6, feast(3, api.Transfer), feast(1, policy))
		expectResolve(t, c, onTheDay(c), occurrence.Result{Principal: proper(1, 1, "feast-1"), Impeded: indices(0)})
	}
}

// roman returns a catalogue like those of the western churches.
func roman() api.Catalogue {
	return api.Catalogue{
		Free: 5,
		Seasons: []api.Season{
			seasonOf("ordinary-time", 6, 9, nth(1, 8, api.Monday, 1)),
			seasonOf("lent", 2, 8, paschal(-46)),
			seasonOf("holy-week", 2, 2, paschal(-7)),
			seasonOf("octave-of-easter", 1, 1, paschal(0)),
			seasonOf("eastertide", 2, 9, paschal(8)),
			seasonOf("ordinary-time-2", 6, 9, paschal(50)),
			seasonOf("advent", 2, 8, nth(11, 27, api.Sunday, 1)),
			seasonOf("christmas", 5, 7, fixed(12, 25)),
		},
		Feasts: []api.Feast{
			feastOf("mary", 3, api.Transfer, fixed(1, 1)),
			feastOf("joseph", 3, api.Transfer, fixed(3, 19)),
			feastOf("annunciation", 3, api.Transfer, fixed(3, 25)),
			feastOf("easter-sunday", 1, api.Transfer, paschal(0)),
			feastOf("mark", 5, api.Omit, fixed(4, 25)),
			feastOf("sacred-heart", 3, api.Transfer, paschal(68)),
			feastOf("john-baptist", 3, api.Transfer, fixed(6, 24)),
			feastOf("transfiguration", 6, api.Commemorate, fixed(8, 6)),
			feastOf("lucy", 8, api.Commemorate, fixed(12, 13)),
			feastOf("anastasia", 9, api.Commemorate, fixed(12, 25)),
			feastOf("nativity", 1, api.Transfer, fixed(12, 25)),
			feastOf("sylvester", 8, api.Commemorate, fixed(12, 31)),
			feastOf("holy-family", 4, api.Omit, nth(12, 31, api.Sunday, -1)),
		},
	}
}

// P21.1: known days of common and leap years, and whether they are free.
func TestKnownDays(t *testing.T) {
	c := roman()
	for _, x := range []struct {
		year, month, day int
		want             occurrence.Result
		free             bool
	}{
		{2024, 3, 25, occurrence.Result{Principal: temporal(2, 2, "holy-week"), Impeded: indices(2)}, false},
		{2023, 3, 25, occurrence.Result{Principal: proper(2, 3, "annunciation")}, false},
		{2008, 3, 19, occurrence.Result{Principal: temporal(2, 2, "holy-week"), Impeded: indices(1)}, false},
		{2008, 3, 25, occurrence.Result{Principal: temporal(3, 1, "octave-of-easter"), Impeded: indices(2)}, false},
		{2008, 3, 31, occurrence.Result{Principal: temporal(4, 9, "eastertide")}, true},
		{2024, 3, 31, occurrence.Result{Principal: temporal(3, 1, "octave-of-easter"), Impeded: indices(3)}, false},
		{2022, 6, 24, occurrence.Result{Principal: proper(5, 3, "sacred-heart"), Impeded: indices(6)}, false},
		{2023, 6, 24, occurrence.Result{Principal: proper(6, 3, "john-baptist")}, false},
		{2024, 4, 25, occurrence.Result{Principal: proper(4, 5, "mark")}, false},
		{2021, 4, 25, occurrence.Result{Principal: temporal(4, 2, "eastertide"), Omitted: indices(4)}, false},
		{1943, 4, 25, occurrence.Result{Principal: temporal(3, 1, "octave-of-easter"), Omitted: indices(4), Impeded: indices(3)}, false},
		{2023, 8, 6, occurrence.Result{Principal: temporal(5, 6, "ordinary-time-2"), Commem: indices(7)}, true},
		{2024, 8, 6, occurrence.Result{Principal: proper(7, 6, "transfiguration")}, true},
		{2024, 12, 13, occurrence.Result{Principal: temporal(6, 8, "advent"), Commem: indices(8)}, true},
		{2024, 12, 25, occurrence.Result{Principal: proper(10, 1, "nativity"), Commem: indices(9)}, false},
		{2023, 12, 31, occurrence.Result{Principal: proper(12, 4, "holy-family"), Commem: indices(11)}, false},
		{2024, 12, 31, occurrence.Result{Principal: temporal(7, 7, "christmas"), Commem: indices(11)}, true},
		{2024, 2, 29, occurrence.Result{Principal: temporal(1, 8, "lent")}, true},
		{2024, 2, 25, occurrence.Result{Principal: temporal(1, 2, "lent")}, false},
	} {
		l := ofDate(t, c, x.year, x.month, x.day)
		expectResolve(t, c, l, x.want)
		slices.Reverse(l)
		expectResolve(t, c, l, x.want)
		expectFree(t, c, occurrence.Resolve(c, l), x.free)
	}
}

// P21.1: days without feasts, of seasons of each index and rank. The season has no
// policy, so that nothing is in the lists.
func TestTemporalCandidateAlone(t *testing.T) {
	for index := range 20 {
		for rank := 1; rank <= 9; rank++ {
			c := roman()
			x := temporal(index, rank, "season-"+strconv.Itoa(index))
			expectResolve(t, c, list(x), occurrence.Result{Principal: x})
			c.Feasts = nil
			expectResolve(t, c, list(x), occurrence.Result{Principal: x})
		}
	}
}

// P21.1: a feast of each rank and policy with a season of each rank. Of the same
// rank, the season precedes; a season that does not is dropped.
func TestOneProperCandidate(t *testing.T) {
	for _, policy := range []int{api.Transfer, api.Commemorate, api.Omit} {
		for season := 1; season <= 9; season++ {
			for rank := 1; rank <= 9; rank++ {
				c := oneDay(season, feast(rank, policy))
				want := occurrence.Result{Principal: proper(0, rank, "feast-0")}
				if season <= rank {
					want = occurrence.Result{Principal: temporal(0, season, "year")}
					switch policy {
					case api.Transfer:
						want.Impeded = indices(0)
					case api.Commemorate:
						want.Commem = indices(0)
					case api.Omit:
						want.Omitted = indices(0)
					}
				}
				l := onTheDay(c)
				expectResolve(t, c, l, want)
				expectResolve(t, c, list(l[1], l[0]), want)
			}
		}
	}
}

// P21.1: the policy is that of the feast with the index of the candidate, wherever
// it is in the catalogue.
func TestPolicyOfTheIndex(t *testing.T) {
	for _, n := range []int{1, 2, 3, 400} {
		for i := range n {
			c := api.Catalogue{Free: 5, Seasons: []api.Season{seasonOf("year", 1, 1, fixed(1, 1))}}
			for j := range n {
				c.Feasts = append(c.Feasts, feastOf("feast-"+strconv.Itoa(j), 2, api.Transfer, fixed(2, 6)))
			}
			l := list(temporal(0, 1, "year"), proper(i, 2, c.Feasts[i].ID))
			expectResolve(t, c, l, occurrence.Result{Principal: l[0], Impeded: indices(i)})
			c.Feasts[i].Policy = api.Commemorate
			expectResolve(t, c, l, occurrence.Result{Principal: l[0], Commem: indices(i)})
			expectDisplace(t, c, occurrence.Result{Principal: l[1]}, occurrence.Result{Commem: indices(i)})
			c.Feasts[i].Policy = api.Omit
			expectResolve(t, c, l, occurrence.Result{Principal: l[0], Omitted: indices(i)})
			expectDisplace(t, c, occurrence.Result{Principal: l[1]}, occurrence.Result{Omitted: indices(i)})
		}
	}
}
