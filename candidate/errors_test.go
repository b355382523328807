package candidate_test

import (
	"strings"
	"testing"

	"computus/api"
	"computus/candidate"
	"computus/gregorian"
	"computus/season"
)

// expectOfError tests that Of has no result, and the error that Of of layer 18 has.
func expectOfError(t *testing.T, what string, c api.Catalogue, year, day int, errno api.Errno) {
	t.Helper()
	if got, err := candidate.Of(c, year, day); got != nil || err != errno {
		t.Errorf("%s: Of day %d of %d = %v, %v, want error %v", what, day, year, got, err, errno)
	}
	if _, err := season.Of(c, year, day); err != errno {
		t.Errorf("%s: the season of day %d of %d has the error %v, want %v", what, day, year, err, errno)
	}
}

// expectYearError tests that Year has no result.
func expectYearError(t *testing.T, what string, c api.Catalogue, year int, errno api.Errno) {
	t.Helper()
	if got, err := candidate.Year(c, year); got != nil || err != errno {
		t.Errorf("%s: Year(%d) = %v, %v, want error %v", what, year, got, err, errno)
	}
}

// badAnchors lists anchors that are not well-formed, of no kind and of each kind.
func badAnchors() []api.Anchor {
	return []api.Anchor{
		{}, {Kind: -1}, {Kind: 4}, {Kind: least}, {Kind: most},
		fixed(2, 29), fixed(13, 1), fixed(0, 1), fixed(1, 0), fixed(4, 31), {Kind: api.Fixed, Month: 1, Day: 1, Offset: 1},
		paschal(-81), paschal(251), paschal(least), paschal(most), {Kind: api.Paschal, Month: 1}, {Kind: api.Paschal, Count: 1},
		nth(11, 27, 7, 1), nth(11, 27, -1, 1), nth(11, 27, 0, 0), nth(11, 27, 0, 9), nth(6, 27, 0, -9), nth(2, 29, 0, 1), nth(12, 26, 0, 1), nth(1, 6, 0, -1),
	}
}

// badCatalogues lists catalogues that are not well-formed in one way each, by what
// is wrong with them.
func badCatalogues() map[string]api.Catalogue {
	l := map[string]api.Catalogue{"zero": {}}
	spoil := func(what string, change func(c *api.Catalogue)) {
		c := roman()
		change(&c)
		l[what] = c
	}
	// Numbers that are no ranks are no policies either.
	for name, n := range map[string]int{"0": 0, "-1": -1, "10": 10, "least": least, "most": most} {
		spoil("sunday "+name, func(c *api.Catalogue) { c.Seasons[7].Sunday = n })
		spoil("weekday "+name, func(c *api.Catalogue) { c.Seasons[0].Weekday = n })
		spoil("rank "+name, func(c *api.Catalogue) { c.Feasts[20].Rank = n })
		spoil("policy "+name, func(c *api.Catalogue) { c.Feasts[0].Policy = n })
	}
	spoil("policy 4", func(c *api.Catalogue) { c.Feasts[0].Policy = 4 })
	for name, n := range map[string]int{"-1": -1, "10": 10, "least": least, "most": most} {
		spoil("free "+name, func(c *api.Catalogue) { c.Free = n })
	}
	for _, id := range []string{"", "A", "2nd", "a--b", "a-", "-a", "a b", "a_b", "é", "a\x00", strings.Repeat("a", 41)} {
		spoil("season "+id, func(c *api.Catalogue) { c.Seasons[3].ID = id })
		spoil("feast "+id, func(c *api.Catalogue) { c.Feasts[10].ID = id })
	}
	for i, a := range badAnchors() {
		name := string(rune('a' + i))
		spoil("first start "+name, func(c *api.Catalogue) { c.Seasons[0].Start = a })
		spoil("last start "+name, func(c *api.Catalogue) { c.Seasons[7].Start = a })
		spoil("first day "+name, func(c *api.Catalogue) { c.Feasts[0].At = a })
		spoil("last day "+name, func(c *api.Catalogue) { c.Feasts[20].At = a })
	}
	spoil("equal seasons", func(c *api.Catalogue) { c.Seasons[7].ID = c.Seasons[0].ID })
	spoil("equal feasts", func(c *api.Catalogue) { c.Feasts[20].ID = c.Feasts[0].ID })
	spoil("season named as a feast", func(c *api.Catalogue) { c.Seasons[7].ID = c.Feasts[0].ID })
	spoil("nil seasons", func(c *api.Catalogue) { c.Seasons = nil })
	spoil("no seasons with capacity", func(c *api.Catalogue) { c.Seasons = c.Seasons[:0] })
	spoil("21 seasons", func(c *api.Catalogue) {
		for i := 8; i < 21; i++ {
			c.Seasons = append(c.Seasons, seasonOf("s"+string(rune('a'+i)), 1, 1, fixed(1, 1)))
		}
	})
	spoil("401 feasts", func(c *api.Catalogue) { c.Feasts = numbered(401, paschal(0)) })
	return l
}

// badYears lists years that are out of range.
func badYears() []int {
	return []int{1582, 1581, 1, 2, 4, 400, 1000, 0, -1, -4, -1582, -1583, -2024, -api.MaxYear, api.MaxYear + 1, api.MaxYear + 2, 2 * api.MaxYear, 1<<32 + 2024, -1<<32 + 2024, 1 << 62, least, least + 1, least + 2024, most, most - 1}
}

// daysBeside lists days in, next to and far from a year. For a year that the
// calendar does not have, they are all far from it.
func daysBeside(year int) []int {
	l := []int{0, 1, -1, 7, -7, 577_735, 577_814, 738_976, -738_976, 365_242_500_000, 365_242_500_001, 1<<32 + 738_976, 1 << 40, 1<<40 + 1, -1 << 40, 1 << 62, -1 << 62, least, least + 1, most - 1, most}
	if first, errno := gregorian.First(year); errno == api.OK {
		l = append(l, first-366, first-365, first-2, first-1, first, first+1, first+200, first+363, first+364, first+365, first+366, first+730)
	}
	return l
}

// isIn reports whether a day is in a year.
func isIn(year, day int) bool {
	d, errno := gregorian.FromDay(day)
	return errno == api.OK && d.Year == year
}

// P19.1 and P19.2: a catalogue that is not well-formed is the first error, whether
// the year is in range or not, and whether the day is in the year or not.
func TestErrorsOfCatalogues(t *testing.T) {
	for what, c := range badCatalogues() {
		for _, year := range append(badYears(), someKinds()...) {
			expectYearError(t, what, c, year, api.ErrCatalogue)
			for _, day := range daysBeside(year) {
				expectOfError(t, what, c, year, day, api.ErrCatalogue)
			}
		}
	}
}

// P19.1 and P19.2: a year that is out of range is the next error, whether the day
// is in the year or not, and whether there are feasts or not.
func TestErrorsOfYears(t *testing.T) {
	for _, c := range someCatalogues() {
		for _, year := range badYears() {
			expectYearError(t, "year", c, year, api.ErrRange)
			for _, day := range daysBeside(year) {
				expectOfError(t, "year", c, year, day, api.ErrRange)
			}
		}
	}
}

// P19.1: a day that is not in the year is the last error.
func TestErrorsOfDays(t *testing.T) {
	for _, c := range someCatalogues() {
		for _, year := range append(someKinds(), 1584, 1818, 2000, api.MaxYear-1) {
			for _, day := range daysBeside(year) {
				if !isIn(year, day) {
					expectOfError(t, "day", c, year, day, api.ErrDate)
				} else if got, errno := candidate.Of(c, year, day); len(got) == 0 || errno != api.OK {
					t.Errorf("Of day %d of %d = %v, %v", day, year, got, errno)
				}
			}
		}
	}
}

// P19.1 and P19.2: the ends of the range and of years, and what is next to them.
func TestErrorsAtTheEnds(t *testing.T) {
	c := roman()
	feasts := list(proper(1, 3, "mary"), proper(0, 8, "sylvester"), proper(19, 4, "holy-family"))
	for _, x := range []struct {
		year, first, last   int
		firstRank, lastRank int
		// lastFeasts are the feasts of the last day.
		lastFeasts []candidate.Candidate
	}{
		{1583, 577_814, 578_178, 7, 7, feasts[1:2]},
		{2023, 738_521, 738_885, 5, 5, feasts[1:]},
		{2024, 738_886, 739_251, 7, 7, feasts[1:2]},
		{api.MaxYear, 365_242_499_635, 365_242_500_000, 7, 5, feasts[1:]},
	} {
		expectOfError(t, "the day before the first", c, x.year, x.first-1, api.ErrDate)
		expectOf(t, c, x.year, x.first, list(temporal(7, x.firstRank, "christmas"), feasts[0]))
		expectOf(t, c, x.year, x.last, append(list(temporal(7, x.lastRank, "christmas")), x.lastFeasts...))
		expectOfError(t, "the day after the last", c, x.year, x.last+1, api.ErrDate)
	}
	expectYearError(t, "the year before the first", c, 1582, api.ErrRange)
	expectOfError(t, "the year before the first", c, 1582, 577_813, api.ErrRange)
	expectOfError(t, "the year before the first", c, 1582, 577_814, api.ErrRange)
	expectYearError(t, "the year after the last", c, api.MaxYear+1, api.ErrRange)
	expectOfError(t, "the year after the last", c, api.MaxYear+1, 365_242_500_000, api.ErrRange)
	expectOfError(t, "the year after the last", c, api.MaxYear+1, 365_242_500_001, api.ErrRange)
}

// P19.1 and P19.2: each error alone, each two errors together, and all three.
func TestErrorsInOrder(t *testing.T) {
	c, bad := roman(), roman()
	bad.Free = 10
	expectOfError(t, "catalogue", bad, 2024, 738_976, api.ErrCatalogue)
	expectOfError(t, "year", c, 1582, 577_800, api.ErrRange)
	expectOfError(t, "day", c, 2024, 738_885, api.ErrDate)
	expectOfError(t, "catalogue and year", bad, 1582, 577_800, api.ErrCatalogue)
	expectOfError(t, "catalogue and day", bad, 2024, 738_885, api.ErrCatalogue)
	expectOfError(t, "year and day", c, 1582, 738_976, api.ErrRange)
	expectOfError(t, "all three", bad, 1582, 738_976, api.ErrCatalogue)
	expectYearError(t, "catalogue", bad, 2024, api.ErrCatalogue)
	expectYearError(t, "year", c, 1582, api.ErrRange)
	expectYearError(t, "catalogue and year", bad, 1582, api.ErrCatalogue)
}
