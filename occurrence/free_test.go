package occurrence_test

import (
	"testing"

	"computus/api"
	"computus/occurrence"
)

// P21.1: a temporal principal celebration of each rank, for each Free, without
// feasts and with one of the same rank, and a lesser one, of each policy.
func TestFreeWithTemporal(t *testing.T) {
	for free := 0; free <= 9; free++ {
		for rank := 1; rank <= 9; rank++ {
			for policy := 1; policy <= 3; policy++ {
				for _, feasts := range [][]api.Feast{nil, {feast(rank, policy)}, {feast(9, policy)}, {feast(9, policy), feast(rank, policy)}} {
					c := oneDay(rank, feasts...)
					c.Free = free
					expectFree(t, c, occurrence.Resolve(c, onTheDay(c)), rank > free)
				}
			}
		}
	}
}

// P21.1: a proper principal celebration of each rank, for each Free, alone and with
// another feast, of the same rank or a lesser one, of each policy.
func TestFreeWithProper(t *testing.T) {
	for free := 0; free <= 9; free++ {
		for rank := 1; rank < 9; rank++ {
			for policy := 1; policy <= 3; policy++ {
				for other := 1; other <= 3; other++ {
					for _, feasts := range [][]api.Feast{{feast(rank, policy)}, {feast(rank, policy), feast(rank, other)}, {feast(9, other), feast(rank, policy)}} {
						c := oneDay(9, feasts...)
						c.Free = free
						expectFree(t, c, occurrence.Resolve(c, onTheDay(c)), rank > free)
					}
				}
			}
		}
	}
}

// P21.1: with Free 0 every day is free, and with Free 9 none.
func TestFreeAlwaysAndNever(t *testing.T) {
	combinations(2, 9, func(c api.Catalogue) {
		r := occurrence.Resolve(c, onTheDay(c))
		c.Free = 0
		expectFree(t, c, r, true)
		c.Free = 9
		expectFree(t, c, r, false)
	})
}

// P21.1: for each Free, and a result that is given.
func TestFreeOfResults(t *testing.T) {
	c := oneDay(9, feast(9, api.Omit), feast(9, api.Commemorate), feast(9, api.Transfer))
	for c.Free = 0; c.Free <= 9; c.Free++ {
		for rank := 1; rank <= 9; rank++ {
			for index := range 3 {
				expectFree(t, c, occurrence.Result{Principal: proper(index, rank, "feast")}, rank > c.Free)
				expectFree(t, c, occurrence.Result{Principal: temporal(index, rank, "season"), Commem: indices(1), Omitted: indices(0), Impeded: indices(2)}, rank > c.Free)
			}
		}
	}
}
