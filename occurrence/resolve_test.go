package occurrence_test

import (
	"slices"
	"testing"

	"computus/api"
	"computus/candidate"
	"computus/occurrence"
)

// precedes compares ranks, kinds and indices as the letters of words are.
func precedes(a, b candidate.Candidate) bool {
	return slices.Compare([]int{a.Rank, a.Kind, a.Index}, []int{b.Rank, b.Kind, b.Index}) < 0
}

// inOrder puts each candidate to the place that is the number of those that
// precede it.
func inOrder(l []candidate.Candidate) []candidate.Candidate {
	out := make([]candidate.Candidate, len(l))
	for _, x := range l {
		place := 0
		for _, y := range l {
			if precedes(y, x) {
				place++
			}
		}
		out[place] = x
	}
	return out
}

// withPolicy lists the feasts of a policy among the candidates of a list, which is
// in order.
func withPolicy(c api.Catalogue, l []candidate.Candidate, policy int) []int {
	var out []int
	for _, x := range l {
		if x.Kind == api.Proper && c.Feasts[x.Index].Policy == policy {
			out = append(out, x.Index)
		}
	}
	return out
}

// byDefinition is the result of resolving candidates, list by list.
func byDefinition(c api.Catalogue, l []candidate.Candidate) occurrence.Result {
	l = inOrder(l)
	return occurrence.Result{
		Principal: l[0],
		Commem:    withPolicy(c, l[1:], api.Commemorate),
		Omitted:   withPolicy(c, l[1:], api.Omit),
		Impeded:   withPolicy(c, l[1:], api.Transfer),
	}
}

// P21.1: the principal celebration is temporal or proper, of each policy, and the
// others are of one policy, of two and of all three.
func TestKnownLists(t *testing.T) {
	const transfer, commemorate, omit = api.Transfer, api.Commemorate, api.Omit
	for _, x := range []struct {
		season int
		feasts []api.Feast
		want   occurrence.Result
	}{
		{1, []api.Feast{feast(2, transfer), feast(2, transfer)}, occurrence.Result{Principal: temporal(0, 1, "year"), Impeded: indices(0, 1)}},
		{1, []api.Feast{feast(3, commemorate), feast(2, commemorate)}, occurrence.Result{Principal: temporal(0, 1, "year"), Commem: indices(1, 0)}},
		{1, []api.Feast{feast(3, omit), feast(2, omit), feast(9, omit), feast(2, omit)}, occurrence.Result{Principal: temporal(0, 1, "year"), Omitted: indices(1, 3, 0, 2)}},
		{4, []api.Feast{feast(4, omit), feast(4, commemorate), feast(4, transfer)}, occurrence.Result{Principal: temporal(0, 4, "year"), Commem: indices(1), Omitted: indices(0), Impeded: indices(2)}},
		{5, []api.Feast{feast(4, transfer), feast(4, commemorate), feast(4, transfer), feast(4, omit)}, occurrence.Result{Principal: proper(0, 4, "feast-0"), Commem: indices(1), Omitted: indices(3), Impeded: indices(2)}},
		{5, []api.Feast{feast(4, commemorate), feast(4, commemorate), feast(4, transfer), feast(4, omit)}, occurrence.Result{Principal: proper(0, 4, "feast-0"), Commem: indices(1), Omitted: indices(3), Impeded: indices(2)}},
		{5, []api.Feast{feast(4, omit), feast(4, commemorate), feast(4, transfer), feast(4, omit)}, occurrence.Result{Principal: proper(0, 4, "feast-0"), Commem: indices(1), Omitted: indices(3), Impeded: indices(2)}},
		{9, []api.Feast{feast(8, omit), feast(7, omit), feast(6, omit)}, occurrence.Result{Principal: proper(2, 6, "feast-2"), Omitted: indices(1, 0)}},
		{9, []api.Feast{feast(6, commemorate), feast(7, commemorate), feast(8, commemorate)}, occurrence.Result{Principal: proper(0, 6, "feast-0"), Commem: indices(1, 2)}},
		{3, []api.Feast{feast(4, transfer), feast(2, omit), feast(1, commemorate), feast(5, transfer), feast(3, transfer)}, occurrence.Result{Principal: proper(2, 1, "feast-2"), Omitted: indices(1), Impeded: indices(4, 0, 3)}},
		{3, []api.Feast{feast(9, commemorate), feast(1, omit), feast(9, commemorate), feast(1, omit), feast(4, commemorate), feast(3, omit)}, occurrence.Result{Principal: proper(1, 1, "feast-1"), Commem: indices(4, 0, 2), Omitted: indices(3, 5)}},
		{2, []api.Feast{feast(5, commemorate), feast(4, omit), feast(5, transfer), feast(3, commemorate), feast(2, omit), feast(4, transfer)}, occurrence.Result{Principal: temporal(0, 2, "year"), Commem: indices(3, 0), Omitted: indices(4, 1), Impeded: indices(5, 2)}},
	} {
		c := oneDay(x.season, x.feasts...)
		l := ofDate(t, c, 2024, 2, 6)
		expectResolve(t, c, l, x.want)
		slices.Reverse(l)
		expectResolve(t, c, l, x.want)
	}
}

// combinations calls visit with a catalogue of each few feasts of each rank to a
// limit and of each policy, and a season of each rank to the limit.
func combinations(feasts, ranks int, visit func(api.Catalogue)) {
	var extend func([]api.Feast)
	extend = func(l []api.Feast) {
		for season := 1; season <= ranks; season++ {
			visit(oneDay(season, l...))
		}
		if len(l) == feasts {
			return
		}
		for rank := 1; rank <= ranks; rank++ {
			for policy := 1; policy <= 3; policy++ {
				extend(append(slices.Clone(l), feast(rank, policy)))
			}
		}
	}
	extend(nil)
}

// P21.1 and P21.3: each few feasts, by the definition.
func TestCombinations(t *testing.T) {
	combinations(4, 3, func(c api.Catalogue) {
		l := onTheDay(c)
		expectResolve(t, c, l, byDefinition(c, l))
		expectOnePlace(t, c, l)
	})
}

// permutations calls visit with a list in each order of its candidates, from the
// index k on.
func permutations(l []candidate.Candidate, k int, visit func([]candidate.Candidate)) {
	if k == len(l) {
		visit(l)
		return
	}
	for i := k; i < len(l); i++ {
		l[k], l[i] = l[i], l[k]
		permutations(l, k+1, visit)
		l[k], l[i] = l[i], l[k]
	}
}

// P21.1: the candidates of a day in each order.
func TestEachOrderOfFew(t *testing.T) {
	for _, c := range []api.Catalogue{
		oneDay(3, feast(4, api.Transfer), feast(2, api.Transfer), feast(3, api.Transfer), feast(3, api.Transfer), feast(1, api.Transfer)),
		oneDay(1, feast(2, api.Commemorate), feast(2, api.Commemorate), feast(2, api.Omit), feast(2, api.Omit), feast(2, api.Commemorate), feast(2, api.Omit)),
		oneDay(2, feast(2, api.Omit), feast(1, api.Commemorate), feast(2, api.Transfer), feast(1, api.Omit), feast(2, api.Commemorate), feast(1, api.Transfer)),
		oneDay(9, feast(5, api.Transfer), feast(5, api.Commemorate), feast(5, api.Omit), feast(5, api.Transfer), feast(5, api.Commemorate), feast(5, api.Omit)),
		oneDay(5, feast(9, api.Omit), feast(8, api.Transfer), feast(7, api.Commemorate), feast(6, api.Omit), feast(5, api.Transfer), feast(4, api.Commemorate)),
	} {
		want := byDefinition(c, onTheDay(c))
		permutations(onTheDay(c), 0, func(l []candidate.Candidate) {
			expectResolve(t, c, l, want)
		})
	}
}

// numbers returns a function that yields numbers below a limit, in no apparent
// order, always the same ones for a seed.
func numbers(seed int) func(limit int) int {
	state := uint64(seed)
	return func(limit int) int {
		state = state*6364136223846793005 + 1442695040888963407
		return int(state >> 33 % uint64(limit))
	}
}

// shuffled returns the candidates of a list in another order, which depends on a
// seed.
func shuffled(l []candidate.Candidate, seed int) []candidate.Candidate {
	l = slices.Clone(l)
	next := numbers(seed)
	for i := len(l) - 1; i > 0; i-- {
		j := next(i + 1)
		l[i], l[j] = l[j], l[i]
	}
	return l
}

// manyOnOneDay returns a catalogue of n feasts on one day, of ranks to a limit and
// of all policies, in no apparent order.
func manyOnOneDay(n, season, ranks int) api.Catalogue {
	next := numbers(n*100 + season*10 + ranks)
	var feasts []api.Feast
	for range n {
		feasts = append(feasts, feast(1+next(ranks), 1+next(3)))
	}
	return oneDay(season, feasts...)
}

// P21.1: many feasts on one day, in order, in reverse order and shuffled.
func TestManyOnOneDay(t *testing.T) {
	for _, n := range []int{7, 12, 13, 20, 21, 50, 100, 400} {
		for _, ranks := range []int{1, 2, 9} {
			for _, season := range []int{1, 2, 9} {
				c := manyOnOneDay(n, season, ranks)
				l := onTheDay(c)
				want := byDefinition(c, l)
				expectResolve(t, c, l, want)
				expectOnePlace(t, c, l)
				ordered := inOrder(l)
				expectResolve(t, c, ordered, want)
				slices.Reverse(ordered)
				expectResolve(t, c, ordered, want)
				for seed := range 10 {
					expectResolve(t, c, shuffled(l, seed), want)
				}
			}
		}
	}
}

// expectOnePlace tests that every proper candidate is the principal celebration or
// once in one of the lists, that nothing else is in them, and that no candidate
// precedes the principal celebration.
func expectOnePlace(t *testing.T, c api.Catalogue, l []candidate.Candidate) {
	t.Helper()
	r := occurrence.Resolve(c, l)
	count := map[int]int{}
	for _, index := range slices.Concat(r.Commem, r.Omitted, r.Impeded) {
		count[index]++
	}
	if r.Principal.Kind == api.Proper {
		count[r.Principal.Index]++
	}
	feasts := 0
	for _, x := range l {
		if precedes(x, r.Principal) {
			t.Errorf("%v precedes the principal celebration of %+v", x, r)
		}
		if x.Kind != api.Proper {
			continue
		}
		feasts++
		if count[x.Index] != 1 {
			t.Errorf("%v is in %d places of %+v", x, count[x.Index], r)
		}
	}
	if len(count) != feasts {
		t.Errorf("%d feasts are in places of %+v, want %d", len(count), r, feasts)
	}
	if !slices.Contains(l, r.Principal) {
		t.Errorf("the principal celebration of %+v is none of the candidates", r)
	}
}
