package ordo_test

import (
	"math"
	"testing"

	"computus/api"
)

// wrongYears lists years that are out of range.
func wrongYears() []int {
	return []int{api.FirstGregorian - 1, api.MaxYear + 1, 0, 1, -1, -2024, 1000, math.MinInt, math.MaxInt, math.MaxInt32 + 1, -api.MaxYear, math.MinInt + 2024}
}

// malformed lists catalogues that are not well-formed.
func malformed() []api.Catalogue {
	l := []api.Catalogue{{}, {Free: 5, Feasts: roman().Feasts}}
	for _, spoil := range []func(c *api.Catalogue){
		func(c *api.Catalogue) { c.Free = -1 },
		func(c *api.Catalogue) { c.Free = 10 },
		func(c *api.Catalogue) { c.Seasons[3].ID = "" },
		func(c *api.Catalogue) { c.Seasons[7].Sunday = 0 },
		func(c *api.Catalogue) { c.Seasons[0].Weekday = 10 },
		func(c *api.Catalogue) { c.Seasons[2].Start.Offset = 251 },
		func(c *api.Catalogue) { c.Feasts[0].ID = "Mary" },
		func(c *api.Catalogue) { c.Feasts[1].Rank = 0 },
		func(c *api.Catalogue) { c.Feasts[2].Policy = 4 },
		func(c *api.Catalogue) { c.Feasts[11].At = fixed(2, 29) },
		func(c *api.Catalogue) { c.Feasts[5].ID = c.Feasts[6].ID },
		func(c *api.Catalogue) { c.Feasts[5].ID = c.Seasons[0].ID },
		func(c *api.Catalogue) { c.Feasts = append(c.Feasts, manyFeasts(389, 9, api.Omit)...) },
	} {
		c := roman()
		spoil(&c)
		l = append(l, c)
	}
	return l
}

// P23.1: catalogues that are not well-formed, also with a year out of range.
func TestErrCatalogue(t *testing.T) {
	for _, c := range malformed() {
		for _, year := range append(wrongYears(), api.FirstGregorian, 2023, 2024, api.MaxYear) {
			expectError(t, c, year, api.ErrCatalogue)
		}
	}
	c := oneSeason(9, 1, feastOf("a", 1, api.Transfer, fixed(12, 31)), feastOf("a", 1, api.Transfer, fixed(12, 31)))
	expectError(t, c, 2024, api.ErrCatalogue)
}

// P23.1: years out of range, also if there would be no free day.
func TestErrRange(t *testing.T) {
	for _, c := range []api.Catalogue{roman(), oneSeason(0, 1), oneSeason(9, 1, feastOf("a", 1, api.Transfer, fixed(6, 1)))} {
		for _, year := range wrongYears() {
			expectError(t, c, year, api.ErrRange)
		}
	}
}

// P23.1: the first and the last year have a calendar.
func TestFirstAndLastYear(t *testing.T) {
	for _, year := range []int{api.FirstGregorian, api.FirstGregorian + 1, api.MaxYear - 1, api.MaxYear} {
		k := build(t, roman(), year)
		last := k.Entries[len(k.Entries)-1].Date
		if k.Year != year || k.Entries[0].Date != date(year, 1, 1) || last != date(year, 12, 31) {
			t.Errorf("Build(%d) = a calendar of %d, from %v to %v", year, k.Year, k.Entries[0].Date, last)
		}
	}
}

// P23.1: with Free 9, no day is free, so that there is none for any impeded feast.
func TestErrNoFreeDayWithFree9(t *testing.T) {
	for _, at := range []api.Anchor{fixed(1, 1), fixed(6, 15), fixed(12, 31), paschal(0)} {
		for rank := 1; rank <= 9; rank++ {
			c := oneSeason(9, 1, feastOf("a", rank, api.Transfer, at))
			expectError(t, c, 2024, api.ErrNoFreeDay)
			c.Feasts[0].Policy = api.Commemorate
			build(t, c, 2024)
			c.Feasts[0].Policy = api.Omit
			build(t, c, 2024)
			c = oneSeason(9, 9, feastOf("a", 1, api.Transfer, at))
			build(t, c, 2024)
		}
	}
}

// P23.1: there is no day after the last one of the year.
func TestErrNoFreeDayOnTheLastDay(t *testing.T) {
	for _, year := range []int{api.FirstGregorian, 2023, 2024, api.MaxYear} {
		c := oneSeason(0, 9, impedance("b", fixed(12, 31))...)
		expectError(t, c, year, api.ErrNoFreeDay)
		c = oneSeason(0, 9, impedance("b", fixed(12, 30))...)
		expectPlace(t, c, date(year, 12, 31), place{kind: api.Moved, principal: "b", rank: 2, from: date(year, 12, 30)})
		c.Feasts = append(c.Feasts, impedance("c", fixed(12, 30))...)
		expectError(t, c, year, api.ErrNoFreeDay)
		c = oneSeason(0, 9, impedance("b", nth(12, 31, api.Sunday, -1))...)
		// These two years end with a Sunday.
		if year == 2023 || year == api.MaxYear {
			expectError(t, c, year, api.ErrNoFreeDay)
		} else {
			build(t, c, year)
		}
	}
}

// P23.1: a feast for which there is a later day is moved there, and a year with one
// feast more than there are free days has an error.
func TestErrNoFreeDayForTheLastFeast(t *testing.T) {
	for _, year := range []int{2023, 2024} {
		room := 364
		if year == 2024 {
			room = 365
		}
		c := oneSeason(0, 9, manyFeasts(room+1, 1, api.Transfer)...)
		for i := range c.Feasts {
			c.Feasts[i].At = fixed(1, 1)
		}
		k := build(t, c, year)
		for i, e := range k.Entries {
			if e.Principal != c.Feasts[i].ID {
				t.Errorf("entry %d = %+v", i, e)
			}
		}
		c.Feasts = append(c.Feasts, feastOf("one-more", 9, api.Transfer, fixed(1, 1)))
		expectError(t, c, year, api.ErrNoFreeDay)
		c.Feasts[room+1].Policy = api.Commemorate
		build(t, c, year)
	}
}

// P23.1: no later day is free although earlier days are, and although the day of
// the feast is.
func TestErrNoFreeDayAlthoughEarlierDaysAreFree(t *testing.T) {
	c := api.Catalogue{Free: 5, Seasons: []api.Season{seasonOf("free", 6, 6, fixed(1, 1)), seasonOf("end", 5, 5, fixed(9, 1))}}
	c.Feasts = []api.Feast{feastOf("a", 6, api.Transfer, fixed(8, 31))}
	expectError(t, c, 2024, api.ErrNoFreeDay)
	c.Feasts[0].At = fixed(8, 30)
	expectPlace(t, c, date(2024, 8, 31), place{kind: api.Moved, principal: "a", rank: 6, from: date(2024, 8, 30)})
	// In some years, the feast of Easter is behind the last free day.
	c.Seasons[1].Start = fixed(4, 10)
	c.Feasts[0].At = paschal(0)
	expectPlace(t, c, date(2024, 4, 1), place{kind: api.Moved, principal: "a", rank: 6, from: date(2024, 3, 31)})
	expectError(t, c, 2023, api.ErrNoFreeDay)
}
