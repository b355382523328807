package ordo_test

import (
	"testing"

	"computus/api"
)

// P23.1: a feast of each policy that is not the principal celebration of its day.
func TestPolicies(t *testing.T) {
	for rank := 1; rank <= 9; rank++ {
		for season := 1; season <= 9; season++ {
			for _, policy := range []int{api.Transfer, api.Commemorate, api.Omit} {
				c := oneSeason(0, season, feastOf("a", rank, policy, fixed(6, 10)))
				day := place{kind: api.Temporal, principal: "year", rank: season}
				next := day
				switch {
				case rank < season:
					day = place{kind: api.Proper, principal: "a", rank: rank}
				case policy == api.Commemorate:
					day.commem = ids("a")
				case policy == api.Omit:
					day.omitted = ids("a")
				default:
					next = place{kind: api.Moved, principal: "a", rank: rank, from: date(2023, 6, 10)}
				}
				expectPlace(t, c, date(2023, 6, 10), day)
				expectPlace(t, c, date(2023, 6, 11), next)
			}
		}
	}
}

// P23.1: the lists are in the order of precedence, which is not that of the
// catalogue, and have no, one or several IDs.
func TestListsInTheOrderOfPrecedence(t *testing.T) {
	c := oneSeason(5, 9,
		feastOf("nine", 9, api.Commemorate, fixed(10, 1)),
		feastOf("five", 5, api.Omit, fixed(10, 1)),
		feastOf("seven", 7, api.Commemorate, fixed(10, 1)),
		feastOf("one", 1, api.Omit, fixed(10, 1)),
		feastOf("seven-2", 7, api.Commemorate, fixed(10, 1)),
		feastOf("three", 3, api.Omit, fixed(10, 1)),
		feastOf("five-2", 5, api.Omit, fixed(10, 1)),
		feastOf("two", 2, api.Commemorate, fixed(10, 1)),
		feastOf("four", 4, api.Transfer, fixed(10, 1)),
		feastOf("alone", 9, api.Commemorate, fixed(10, 3)),
		feastOf("omitted", 9, api.Omit, fixed(10, 4)),
	)
	expectPlace(t, c, date(2024, 10, 1), place{kind: api.Proper, principal: "one", rank: 1, commem: ids("two", "seven", "seven-2", "nine"), omitted: ids("three", "five", "five-2")})
	expectPlace(t, c, date(2024, 10, 2), place{kind: api.Moved, principal: "four", rank: 4, from: date(2024, 10, 1)})
	expectPlace(t, c, date(2024, 10, 3), place{kind: api.Temporal, principal: "year", rank: 9, commem: ids("alone")})
	expectPlace(t, c, date(2024, 10, 4), place{kind: api.Temporal, principal: "year", rank: 9, omitted: ids("omitted")})
	expectPlace(t, c, date(2024, 10, 5), place{kind: api.Temporal, principal: "year", rank: 9})
	c.Feasts[3].Rank = 9
	expectPlace(t, c, date(2024, 10, 1), place{kind: api.Proper, principal: "two", rank: 2, commem: ids("seven", "seven-2", "nine"), omitted: ids("three", "five", "five-2", "one")})
}

// P23.1: feasts that are not principal celebrations of days whose celebration is
// that of the season.
func TestListsOfASeasonsDay(t *testing.T) {
	c := oneSeason(0, 1,
		feastOf("b", 2, api.Omit, fixed(12, 31)),
		feastOf("c", 1, api.Omit, fixed(12, 31)),
		feastOf("d", 2, api.Commemorate, fixed(12, 31)),
		feastOf("e", 1, api.Commemorate, fixed(12, 31)),
		feastOf("f", 1, api.Commemorate, fixed(1, 1)),
	)
	expectPlace(t, c, date(2024, 12, 31), place{kind: api.Temporal, principal: "year", rank: 1, commem: ids("e", "d"), omitted: ids("c", "b")})
	expectPlace(t, c, date(2024, 1, 1), place{kind: api.Temporal, principal: "year", rank: 1, commem: ids("f")})
}

// P23.1: all feasts of a catalogue with as many as there may be, on one day.
func TestAllFeastsOnOneDay(t *testing.T) {
	for _, policy := range []int{api.Commemorate, api.Omit} {
		c := oneSeason(0, 9, manyFeasts(400, 2, policy)...)
		var want []string
		for i := range c.Feasts {
			c.Feasts[i].At = fixed(2, 28)
			want = append(want, c.Feasts[i].ID)
		}
		day := place{kind: api.Proper, principal: "feast-0", rank: 2, commem: want[1:]}
		if policy == api.Omit {
			day.commem, day.omitted = nil, want[1:]
		}
		expectPlace(t, c, date(2023, 2, 28), day)
		expectPlace(t, c, date(2023, 3, 1), place{kind: api.Temporal, principal: "year", rank: 9})
	}
}
