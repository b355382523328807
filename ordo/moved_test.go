package ordo_test

import (
	"strconv"
	"testing"

	"computus/api"
)

// impedance returns two feasts of a date, of which the second one is impeded.
func impedance(id string, at api.Anchor) []api.Feast {
	return []api.Feast{feastOf("high-"+id, 1, api.Transfer, at), feastOf(id, 2, api.Transfer, at)}
}

// P23.1: a feast is moved over days that are not free, also over the end of a
// month and over 29 February.
func TestMovedOverDaysThatAreNotFree(t *testing.T) {
	c := oneSeason(5, 9, impedance("b", fixed(2, 27))...)
	expectPlace(t, c, date(2023, 2, 27), place{kind: api.Proper, principal: "high-b", rank: 1})
	expectPlace(t, c, date(2023, 2, 28), place{kind: api.Moved, principal: "b", rank: 2, from: date(2023, 2, 27)})
	c.Feasts = append(c.Feasts, feastOf("c", 5, api.Omit, fixed(2, 28)))
	expectPlace(t, c, date(2023, 2, 28), place{kind: api.Proper, principal: "c", rank: 5})
	expectPlace(t, c, date(2023, 3, 1), place{kind: api.Moved, principal: "b", rank: 2, from: date(2023, 2, 27)})
	expectPlace(t, c, date(2024, 2, 29), place{kind: api.Moved, principal: "b", rank: 2, from: date(2024, 2, 27)})
	expectPlace(t, c, date(2024, 3, 1), place{kind: api.Temporal, principal: "year", rank: 9})
	c.Feasts = append(c.Feasts, feastOf("d", 5, api.Omit, fixed(3, 1)), feastOf("e", 1, api.Omit, fixed(3, 3)))
	expectPlace(t, c, date(2023, 3, 2), place{kind: api.Moved, principal: "b", rank: 2, from: date(2023, 2, 27)})
	expectPlace(t, c, date(2024, 2, 29), place{kind: api.Moved, principal: "b", rank: 2, from: date(2024, 2, 27)})
}

// P23.1: a feast is moved over days that another moved feast has taken, in the
// order of the days, and then in that of precedence.
func TestMovedOverTakenDays(t *testing.T) {
	c := oneSeason(5, 9,
		feastOf("d", 3, api.Transfer, fixed(6, 30)),
		feastOf("c", 2, api.Transfer, fixed(6, 30)),
		feastOf("e", 3, api.Transfer, fixed(6, 30)),
		feastOf("a", 1, api.Transfer, fixed(6, 30)),
		feastOf("g", 1, api.Omit, fixed(7, 1)),
		feastOf("f", 2, api.Transfer, fixed(7, 1)),
	)
	expectPlace(t, c, date(2023, 6, 30), place{kind: api.Proper, principal: "a", rank: 1})
	expectPlace(t, c, date(2023, 7, 1), place{kind: api.Proper, principal: "g", rank: 1})
	expectPlace(t, c, date(2023, 7, 2), place{kind: api.Moved, principal: "c", rank: 2, from: date(2023, 6, 30)})
	expectPlace(t, c, date(2023, 7, 3), place{kind: api.Moved, principal: "d", rank: 3, from: date(2023, 6, 30)})
	expectPlace(t, c, date(2023, 7, 4), place{kind: api.Moved, principal: "e", rank: 3, from: date(2023, 6, 30)})
	expectPlace(t, c, date(2023, 7, 5), place{kind: api.Moved, principal: "f", rank: 2, from: date(2023, 7, 1)})
	expectPlace(t, c, date(2023, 7, 6), place{kind: api.Temporal, principal: "year", rank: 9})
}

// P23.1: feasts that move with Easter are impeded, moved, or in the way of others,
// by the year.
func TestMovedWithEaster(t *testing.T) {
	c := roman()
	expectPlace(t, c, date(2023, 3, 25), place{kind: api.Proper, principal: "annunciation", rank: 3})
	expectPlace(t, c, date(2018, 4, 9), place{kind: api.Moved, principal: "annunciation", rank: 3, from: date(2018, 3, 25)})
	expectPlace(t, c, date(2016, 4, 4), place{kind: api.Moved, principal: "annunciation", rank: 3, from: date(2016, 3, 25)})
	expectPlace(t, c, date(2012, 3, 26), place{kind: api.Moved, principal: "annunciation", rank: 3, from: date(2012, 3, 25)})
	expectPlace(t, c, date(2017, 3, 20), place{kind: api.Moved, principal: "joseph", rank: 3, from: date(2017, 3, 19)})
	c = oneSeason(5, 9,
		feastOf("ascension", 1, api.Transfer, paschal(39)),
		feastOf("may", 2, api.Transfer, fixed(5, 9)),
		feastOf("thursday", 3, api.Transfer, nth(5, 9, api.Thursday, 1)),
	)
	// In 2024, all of them are on 9 May; in 2023, they are on three days.
	expectPlace(t, c, date(2024, 5, 9), place{kind: api.Proper, principal: "ascension", rank: 1})
	expectPlace(t, c, date(2024, 5, 10), place{kind: api.Moved, principal: "may", rank: 2, from: date(2024, 5, 9)})
	expectPlace(t, c, date(2024, 5, 11), place{kind: api.Moved, principal: "thursday", rank: 3, from: date(2024, 5, 9)})
	expectPlace(t, c, date(2023, 5, 9), place{kind: api.Proper, principal: "may", rank: 2})
	expectPlace(t, c, date(2023, 5, 11), place{kind: api.Proper, principal: "thursday", rank: 3})
	expectPlace(t, c, date(2023, 5, 18), place{kind: api.Proper, principal: "ascension", rank: 1})
}

// P23.1: the celebration of a season, which is in the way of a moved feast, is
// dropped; the season of the entry remains.
func TestMovedOverASeason(t *testing.T) {
	for free := range 9 {
		c := oneSeason(free, 9, impedance("b", fixed(5, 31))...)
		expectDays(t, c, 2024, api.Entry{Date: date(2024, 6, 1), Weekday: 6, Season: "year", Week: 21, Kind: 3, Principal: "b", Rank: 2, From: date(2024, 5, 31)})
		expectPlace(t, c, date(2024, 6, 2), place{kind: api.Temporal, principal: "year", rank: 9})
	}
}

// P23.1: the feast that a moved one displaces is the first commemoration, or the
// first omitted feast if this is its policy, before the others of the day.
func TestMovedOverAFeast(t *testing.T) {
	for _, policy := range []int{api.Transfer, api.Commemorate, api.Omit} {
		c := oneSeason(3, 9, impedance("b", fixed(5, 31))...)
		c.Feasts = append(c.Feasts,
			feastOf("third", 5, api.Commemorate, fixed(6, 1)),
			feastOf("fourth", 5, api.Omit, fixed(6, 1)),
			feastOf("second", 4, api.Commemorate, fixed(6, 1)),
			feastOf("fifth", 6, api.Omit, fixed(6, 1)),
			feastOf("first", 4, policy, fixed(6, 1)),
		)
		c.Feasts[4].Rank = 5
		want := place{kind: api.Moved, principal: "b", rank: 2, from: date(2024, 5, 31), commem: ids("first", "third", "second"), omitted: ids("fourth", "fifth")}
		if policy == api.Omit {
			want.commem, want.omitted = ids("third", "second"), ids("first", "fourth", "fifth")
		}
		expectPlace(t, c, date(2024, 6, 1), want)
		// Without the impeded feast, nothing is displaced.
		c.Feasts[1].Policy = api.Omit
		expectPlace(t, c, date(2024, 5, 31), place{kind: api.Proper, principal: "high-b", rank: 1, omitted: ids("b")})
		expectPlace(t, c, date(2024, 6, 1), place{kind: api.Proper, principal: "first", rank: 4, commem: ids("third", "second"), omitted: ids("fourth", "fifth")})
	}
}

// P23.1: a feast that is displaced is not moved, although one that is impeded on
// the same day is.
func TestDisplacedFeastStays(t *testing.T) {
	c := oneSeason(3, 9, impedance("b", fixed(5, 31))...)
	c.Feasts = append(c.Feasts, feastOf("c", 4, api.Transfer, fixed(6, 1)), feastOf("d", 5, api.Transfer, fixed(6, 1)))
	expectPlace(t, c, date(2024, 6, 1), place{kind: api.Moved, principal: "b", rank: 2, from: date(2024, 5, 31), commem: ids("c")})
	expectPlace(t, c, date(2024, 6, 2), place{kind: api.Moved, principal: "d", rank: 5, from: date(2024, 6, 1)})
	expectPlace(t, c, date(2024, 6, 3), place{kind: api.Temporal, principal: "year", rank: 9})
}

// P23.1: the moved feast is the principal celebration even if the one that it
// displaces, or a commemoration of the day, precedes it.
func TestMovedFeastOfALowRank(t *testing.T) {
	c := oneSeason(2, 4,
		feastOf("a", 3, api.Omit, fixed(1, 31)),
		feastOf("low", 9, api.Transfer, fixed(1, 31)),
		feastOf("c", 3, api.Commemorate, fixed(2, 1)),
		feastOf("d", 3, api.Commemorate, fixed(2, 1)),
	)
	expectPlace(t, c, date(2024, 1, 31), place{kind: api.Proper, principal: "a", rank: 3})
	expectPlace(t, c, date(2024, 2, 1), place{kind: api.Moved, principal: "low", rank: 9, from: date(2024, 1, 31), commem: ids("c", "d")})
	c.Free = 3
	expectPlace(t, c, date(2024, 2, 1), place{kind: api.Proper, principal: "c", rank: 3, commem: ids("d")})
	expectPlace(t, c, date(2024, 2, 2), place{kind: api.Moved, principal: "low", rank: 9, from: date(2024, 1, 31)})
}

// P23.1: a day is free if the rank of its principal celebration is greater than the
// Free of the catalogue, for each pair of ranks.
func TestMovedByFree(t *testing.T) {
	for free := 0; free <= 9; free++ {
		for rank := 1; rank <= 8; rank++ {
			c := oneSeason(free, 9, impedance("b", fixed(8, 30))...)
			c.Feasts = append(c.Feasts, feastOf("c", rank, api.Commemorate, fixed(8, 31)))
			if free == 9 {
				expectError(t, c, 2024, api.ErrNoFreeDay)
				continue
			}
			moved := place{kind: api.Moved, principal: "b", rank: 2, from: date(2024, 8, 30)}
			if rank > free {
				moved.commem = ids("c")
				expectPlace(t, c, date(2024, 8, 31), moved)
			} else {
				expectPlace(t, c, date(2024, 8, 31), place{kind: api.Proper, principal: "c", rank: rank})
				expectPlace(t, c, date(2024, 9, 1), moved)
			}
		}
	}
}

// P23.1: several feasts of one day are moved to as many days in turn.
func TestManyFeastsMovedFromOneDay(t *testing.T) {
	c := oneSeason(5, 9)
	for i := range 100 {
		c.Feasts = append(c.Feasts, feastOf("feast-"+strconv.Itoa(i), 2, api.Transfer, fixed(1, 1)))
	}
	k := build(t, c, 2023)
	for i, e := range k.Entries {
		want := place{kind: api.Temporal, principal: "year", rank: 9}
		if i < 100 {
			want = place{kind: api.Moved, principal: "feast-" + strconv.Itoa(i), rank: 2, from: date(2023, 1, 1)}
		}
		if i == 0 {
			want.kind, want.from = api.Proper, api.Date{}
		}
		if e.Kind != want.kind || e.Principal != want.principal || e.Rank != want.rank || e.From != want.from {
			t.Errorf("entry %d = %+v, want %+v", i, e, want)
		}
	}
}

// P23.1: a feast may take the last day of the year, and the first one that is free
// may be months later.
func TestMovedToTheLastDay(t *testing.T) {
	c := api.Catalogue{Free: 5, Seasons: []api.Season{seasonOf("year", 1, 1, fixed(1, 1)), seasonOf("end", 6, 6, fixed(12, 31))}}
	c.Feasts = []api.Feast{feastOf("a", 1, api.Transfer, fixed(1, 1))}
	for _, year := range []int{api.FirstGregorian, 2023, 2024, api.MaxYear} {
		expectPlace(t, c, date(year, 12, 31), place{kind: api.Moved, principal: "a", rank: 1, from: date(year, 1, 1)})
		expectPlace(t, c, date(year, 1, 1), place{kind: api.Temporal, principal: "year", rank: 1})
	}
	c.Feasts[0].At = fixed(12, 30)
	expectPlace(t, c, date(2024, 12, 31), place{kind: api.Moved, principal: "a", rank: 1, from: date(2024, 12, 30)})
}

// P23.1: a feast is never moved to an earlier day, or to the day that it is on, even
// if the day is free.
func TestNeverMovedToItsOwnDay(t *testing.T) {
	c := oneSeason(1, 5, feastOf("a", 6, api.Transfer, fixed(7, 15)))
	expectPlace(t, c, date(2024, 7, 15), place{kind: api.Temporal, principal: "year", rank: 5})
	expectPlace(t, c, date(2024, 7, 14), place{kind: api.Temporal, principal: "year", rank: 5})
	expectPlace(t, c, date(2024, 7, 16), place{kind: api.Moved, principal: "a", rank: 6, from: date(2024, 7, 15)})
}
