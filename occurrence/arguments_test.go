package occurrence_test

import (
	"slices"
	"testing"

	"computus/api"
	"computus/candidate"
	"computus/occurrence"
)

// junk is an index that no feast has.
const junk = -77

// within returns a list of the same items within a longer one, and the longer one,
// so that there is something before the list and in its unused capacity.
func within[T any](l []T, item T) (part, whole []T) {
	whole = append([]T{item, item}, l...)
	whole = append(whole, slices.Repeat([]T{item}, 30+len(l))...)
	return whole[2 : 2+len(l)], whole
}

// spoil writes a mark into a list and its unused capacity.
func spoil(l []int, mark int) {
	l = l[:cap(l)]
	for i := range l {
		l[i] = mark
	}
}

// spoilAll writes junk into all lists of a result.
func spoilAll(r occurrence.Result) {
	spoil(r.Commem, junk)
	spoil(r.Omitted, junk)
	spoil(r.Impeded, junk)
}

// someCatalogues lists catalogues of oneDay in which each list is empty, has one
// index, or has several, and the principal celebration is temporal or proper, of
// each policy.
func someCatalogues() []api.Catalogue {
	l := []api.Catalogue{manyOnOneDay(50, 1, 9), manyOnOneDay(50, 9, 2), manyOnOneDay(400, 5, 9)}
	combinations(3, 2, func(c api.Catalogue) {
		l = append(l, c)
	})
	return l
}

// P21.4: neither the catalogue nor the list of candidates is modified, in their
// length, before it, or in their unused capacity.
func TestArgumentsAreNotModified(t *testing.T) {
	for _, c := range someCatalogues() {
		want := byDefinition(c, onTheDay(c))
		var seasons []api.Season
		var feasts []api.Feast
		c.Seasons, seasons = within(c.Seasons, api.Season{ID: "other"})
		c.Feasts, feasts = within(c.Feasts, api.Feast{ID: "other"})
		part, candidates := within(onTheDay(c), candidate.Candidate{ID: "other"})
		seasonsBefore, feastsBefore, candidatesBefore := slices.Clone(seasons), slices.Clone(feasts), slices.Clone(candidates)
		expectResolve(t, c, part, want)
		r := occurrence.Resolve(c, part)
		occurrence.Free(c, r)
		expectDisplace(t, c, r, displaced(c, want))
		slices.Reverse(part)
		slices.Reverse(candidatesBefore[2 : 2+len(part)])
		expectResolve(t, c, part, want)
		if !slices.Equal(seasons, seasonsBefore) || !slices.Equal(feasts, feastsBefore) {
			t.Errorf("the catalogue with %d feasts has been modified", len(c.Feasts))
		}
		if !slices.Equal(candidates, candidatesBefore) {
			t.Errorf("the list of %d candidates has been modified", len(part))
		}
	}
}

// P21.4: the result that is displaced is not modified, nor is what is before its
// lists and in their unused capacity.
func TestDisplacedResultIsNotModified(t *testing.T) {
	for _, c := range someCatalogues() {
		r := occurrence.Resolve(c, onTheDay(c))
		want := displaced(c, r)
		var commem, omitted, impeded []int
		r.Commem, commem = within(r.Commem, junk)
		r.Omitted, omitted = within(r.Omitted, junk)
		r.Impeded, impeded = within(r.Impeded, junk)
		before, wholes := copyOf(r), slices.Concat(commem, omitted, impeded)
		expectDisplace(t, c, r, want)
		occurrence.Free(c, r)
		got := occurrence.Displace(c, r)
		spoilAll(got)
		_ = append(got.Commem, junk, junk)
		if !same(r, before) || !slices.Equal(slices.Concat(commem, omitted, impeded), wholes) {
			t.Errorf("%+v has been modified: %+v", before, r)
		}
	}
}

// P21.4: the results of Resolve and Displace are new memory, whatever the caller
// does with those of earlier calls.
func TestResultsAreNewlyAllocated(t *testing.T) {
	for _, c := range someCatalogues() {
		l := onTheDay(c)
		want := byDefinition(c, l)
		first, second := occurrence.Resolve(c, l), occurrence.Resolve(c, l)
		third, fourth := occurrence.Displace(c, second), occurrence.Displace(c, second)
		spoilAll(first)
		spoilAll(third)
		if !same(second, want) {
			t.Errorf("%+v has been modified: %+v", want, second)
		}
		if !same(fourth, displaced(c, want)) {
			t.Errorf("%+v has been modified: %+v", displaced(c, want), fourth)
		}
		spoilAll(second)
		if !same(fourth, displaced(c, want)) {
			t.Errorf("a displaced day shares memory with the day: %+v", fourth)
		}
		expectResolve(t, c, l, want)
		expectDisplace(t, c, want, displaced(c, want))
	}
}

// expectNoSharing tests that the lists of a result share no memory, not even their
// unused capacity: each keeps the mark that is its own, and does not run over
// another one when it grows.
func expectNoSharing(t *testing.T, r occurrence.Result) {
	t.Helper()
	lists := [][]int{r.Commem, r.Omitted, r.Impeded}
	for i, l := range lists {
		spoil(l, i)
	}
	for i, l := range lists {
		_ = append(l, i, i, i)
	}
	for i, l := range lists {
		for _, mark := range l[:cap(l)] {
			if mark != i {
				t.Errorf("list %d of %+v shares memory with list %d", i, r, mark)
				return
			}
		}
	}
}

// P21.4: the lists of one result share no memory with each other.
func TestListsShareNoMemory(t *testing.T) {
	for _, c := range someCatalogues() {
		r := occurrence.Resolve(c, onTheDay(c))
		expectNoSharing(t, occurrence.Displace(c, r))
		expectNoSharing(t, r)
	}
}

// P21.4: lists of a result that share one array, each of them with those after it
// in its unused capacity, do not run over each other when it is displaced.
func TestDisplaceOfListsInOneArray(t *testing.T) {
	for _, policy := range []int{api.Transfer, api.Commemorate, api.Omit} {
		c := oneDay(9, feast(1, policy), feast(2, api.Commemorate), feast(3, api.Omit), feast(4, api.Transfer))
		all := indices(1, 2, 3, junk, junk, junk)
		r := occurrence.Result{Principal: proper(0, 1, "feast-0"), Commem: all[:1], Omitted: all[1:2], Impeded: all[2:3]}
		want := displaced(c, r)
		expectDisplace(t, c, r, want)
		expectNoSharing(t, occurrence.Displace(c, r))
		if !slices.Equal(all, indices(1, 2, 3, junk, junk, junk)) {
			t.Errorf("the lists have been modified: %v", all)
		}
	}
}

// P21.4: the results do not change with the arguments of the call.
func TestResultsDoNotChangeWithTheArguments(t *testing.T) {
	for _, c := range someCatalogues() {
		l := onTheDay(c)
		want := byDefinition(c, l)
		wantDisplaced := displaced(c, want)
		r := occurrence.Resolve(c, l)
		got := occurrence.Displace(c, r)
		clear(l)
		clear(c.Seasons)
		clear(c.Feasts)
		if !same(r, want) {
			t.Errorf("%+v has been modified: %+v", want, r)
		}
		spoilAll(r)
		if !same(got, wantDisplaced) {
			t.Errorf("%+v has been modified: %+v", wantDisplaced, got)
		}
	}
}

// P21.1 and P21.2: results do not depend on earlier calls.
func TestResultsOfCallsInTurn(t *testing.T) {
	a := oneDay(9, feast(3, api.Transfer), feast(2, api.Omit))
	b := oneDay(9, feast(2, api.Commemorate), feast(3, api.Commemorate))
	for range 3 {
		expectResolve(t, a, onTheDay(a), occurrence.Result{Principal: proper(1, 2, "feast-1"), Impeded: indices(0)})
		expectResolve(t, b, onTheDay(b), occurrence.Result{Principal: proper(0, 2, "feast-0"), Commem: indices(1)})
		expectDisplace(t, a, occurrence.Resolve(a, onTheDay(a)), occurrence.Result{Omitted: indices(1), Impeded: indices(0)})
		expectDisplace(t, b, occurrence.Resolve(b, onTheDay(b)), occurrence.Result{Commem: indices(0, 1)})
		expectResolve(t, a, onTheDay(a)[:1], occurrence.Result{Principal: temporal(0, 9, "year")})
		a.Feasts[0].Policy = api.Omit
		expectResolve(t, a, onTheDay(a), occurrence.Result{Principal: proper(1, 2, "feast-1"), Omitted: indices(0)})
		a.Feasts[0].Policy = api.Transfer
	}
}

// Arguments for which nothing is promised: the calls end without a panic.
func TestUnspecifiedArguments(t *testing.T) {
	for _, c := range []api.Catalogue{{}, roman(), oneDay(9, feast(1, 0), feast(2, 4), feast(3, -1)), {Free: -1, Feasts: []api.Feast{{}}}} {
		for _, l := range [][]candidate.Candidate{
			nil,
			{},
			{{}},
			{{}, {}},
			list(proper(0, 1, "a")),
			list(proper(0, 1, "a"), proper(0, 1, "a"), proper(1, 2, "b"), proper(2, 3, "c")),
			list(temporal(-1, 1, "a"), temporal(1, 2, "b"), proper(-1, 3, "c"), proper(1000, 4, "d")),
			list(proper(-1, 1, "a"), proper(1000, 2, "b")),
			list(proper(1000, 1, "a"), candidate.Candidate{Kind: api.Moved, Index: 1000}),
		} {
			r := occurrence.Resolve(c, l)
			occurrence.Free(c, r)
			occurrence.Displace(c, occurrence.Displace(c, r))
		}
	}
}
