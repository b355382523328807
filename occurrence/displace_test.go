package occurrence_test

import (
	"testing"

	"computus/api"
	"computus/candidate"
	"computus/occurrence"
)

// displaced is the definition of displacing, list by list.
func displaced(c api.Catalogue, r occurrence.Result) occurrence.Result {
	x := r.Principal
	out := copyOf(r)
	out.Principal = candidate.Candidate{}
	if x.Kind == api.Temporal {
		return out
	}
	switch c.Feasts[x.Index].Policy {
	case api.Omit:
		out.Omitted = append(indices(x.Index), r.Omitted...)
	case api.Transfer, api.Commemorate:
		out.Commem = append(indices(x.Index), r.Commem...)
	}
	return out
}

// P21.2: a principal celebration without others, temporal and proper of each policy
// and rank.
func TestDisplaceAlone(t *testing.T) {
	for rank := 1; rank <= 9; rank++ {
		for season := 1; season <= 9; season++ {
			for _, c := range []api.Catalogue{oneDay(season), oneDay(season, feast(rank, api.Omit))} {
				expectDisplace(t, c, occurrence.Result{Principal: temporal(0, season, "year")}, occurrence.Result{})
			}
		}
		x := proper(0, rank, "feast-0")
		expectDisplace(t, oneDay(9, feast(rank, api.Transfer)), occurrence.Result{Principal: x}, occurrence.Result{Commem: indices(0)})
		expectDisplace(t, oneDay(9, feast(rank, api.Commemorate)), occurrence.Result{Principal: x}, occurrence.Result{Commem: indices(0)})
		expectDisplace(t, oneDay(9, feast(rank, api.Omit)), occurrence.Result{Principal: x}, occurrence.Result{Omitted: indices(0)})
	}
}

// P21.2: a temporal principal celebration is dropped, whatever the policy of the
// feast with the index of its season is, and the lists remain.
func TestDisplaceTemporal(t *testing.T) {
	for _, policy := range []int{api.Transfer, api.Commemorate, api.Omit} {
		c := roman()
		for i := range c.Feasts {
			c.Feasts[i].Policy = policy
		}
		for i, s := range c.Seasons {
			r := occurrence.Result{Principal: temporal(i, 1, s.ID)}
			expectDisplace(t, c, r, occurrence.Result{})
			r.Commem, r.Omitted, r.Impeded = indices(7), indices(9, 8), indices(11, 10, 12)
			expectDisplace(t, c, r, occurrence.Result{Commem: indices(7), Omitted: indices(9, 8), Impeded: indices(11, 10, 12)})
		}
	}
}

// P21.2: a displaced feast is at the front of its list, before those that are
// earlier in the catalogue, and the other lists remain, empty or not.
func TestDisplaceProper(t *testing.T) {
	others := []api.Feast{
		feast(5, api.Commemorate), feast(4, api.Commemorate),
		feast(3, api.Omit), feast(4, api.Omit),
		feast(5, api.Transfer), feast(4, api.Transfer),
	}
	for _, x := range []struct {
		policy          int
		commem, omitted []int
	}{
		{api.Transfer, indices(6, 1, 0), indices(2, 3)},
		{api.Commemorate, indices(6, 1, 0), indices(2, 3)},
		{api.Omit, indices(1, 0), indices(6, 2, 3)},
	} {
		c := oneDay(9, append(others[:6:6], feast(2, x.policy))...)
		r := occurrence.Resolve(c, onTheDay(c))
		expectDisplace(t, c, r, occurrence.Result{Commem: x.commem, Omitted: x.omitted, Impeded: indices(5, 4)})
	}
	for _, x := range []struct {
		policy, other   int
		commem, omitted []int
		impeded         []int
	}{
		{api.Transfer, api.Transfer, indices(0), nil, indices(1)},
		{api.Transfer, api.Commemorate, indices(0, 1), nil, nil},
		{api.Transfer, api.Omit, indices(0), indices(1), nil},
		{api.Commemorate, api.Transfer, indices(0), nil, indices(1)},
		{api.Commemorate, api.Commemorate, indices(0, 1), nil, nil},
		{api.Commemorate, api.Omit, indices(0), indices(1), nil},
		{api.Omit, api.Transfer, nil, indices(0), indices(1)},
		{api.Omit, api.Commemorate, indices(1), indices(0), nil},
		{api.Omit, api.Omit, nil, indices(0, 1), nil},
	} {
		c := oneDay(4, feast(3, x.policy), feast(3, x.other))
		r := occurrence.Resolve(c, onTheDay(c))
		expectDisplace(t, c, r, occurrence.Result{Commem: x.commem, Omitted: x.omitted, Impeded: x.impeded})
	}
}

// P21.2: known days to which a feast could be moved.
func TestDisplaceKnownDays(t *testing.T) {
	c := roman()
	for _, x := range []struct {
		year, month, day int
		want             occurrence.Result
	}{
		{2024, 4, 8, occurrence.Result{}},
		{2024, 8, 6, occurrence.Result{Commem: indices(7)}},
		{2023, 8, 6, occurrence.Result{Commem: indices(7)}},
		{2024, 4, 25, occurrence.Result{Omitted: indices(4)}},
		{2024, 12, 25, occurrence.Result{Commem: indices(10, 9)}},
		{2023, 12, 31, occurrence.Result{Commem: indices(11), Omitted: indices(12)}},
		{2022, 6, 24, occurrence.Result{Commem: indices(5), Impeded: indices(6)}},
		{1943, 4, 25, occurrence.Result{Omitted: indices(4), Impeded: indices(3)}},
	} {
		r := occurrence.Resolve(c, ofDate(t, c, x.year, x.month, x.day))
		expectDisplace(t, c, r, x.want)
	}
}

// P21.2: each few feasts, by the definition.
func TestDisplaceCombinations(t *testing.T) {
	combinations(4, 3, func(c api.Catalogue) {
		r := occurrence.Resolve(c, onTheDay(c))
		expectDisplace(t, c, r, displaced(c, r))
	})
}

// P21.2: many feasts on one day, by the definition.
func TestDisplaceMany(t *testing.T) {
	for _, n := range []int{7, 20, 50, 100, 400} {
		for _, ranks := range []int{1, 2, 9} {
			for _, season := range []int{1, 2, 9} {
				c := manyOnOneDay(n, season, ranks)
				for policy := 1; policy <= 3; policy++ {
					r := occurrence.Resolve(c, onTheDay(c))
					expectDisplace(t, c, r, displaced(c, r))
					if r.Principal.Kind == api.Proper {
						c.Feasts[r.Principal.Index].Policy = policy
					}
				}
			}
		}
	}
}
