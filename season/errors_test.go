package season_test

import (
	"slices"
	"strconv"
	"strings"
	"testing"

	"computus/api"
	"computus/gregorian"
	"computus/season"
)

// expectError tests that Of, Week and Begins have no result.
func expectError(t *testing.T, what string, c api.Catalogue, year, day int, errno api.Errno) {
	t.Helper()
	if got, errs := ask(c, year, day); got != (place{}) || errs != [3]api.Errno{errno, errno, errno} {
		t.Errorf("%s: day %d of %d: %+v, %v, want error %v", what, day, year, got, errs, errno)
	}
}

// expectNoStarts tests that Starts has no result.
func expectNoStarts(t *testing.T, what string, c api.Catalogue, year int, errno api.Errno) {
	t.Helper()
	if got, err := season.Starts(c, year); len(got) != 0 || err != errno {
		t.Errorf("%s: Starts of %d = %v, %v, want error %v", what, year, got, err, errno)
	}
}

// bad is a catalogue that is not well-formed.
type bad struct {
	what string
	api.Catalogue
}

// badCatalogues lists catalogues that are not well-formed, one or more for each
// part of the definition.
func badCatalogues() []bad {
	var l []bad
	spoil := func(what string, change func(c *api.Catalogue)) {
		c := western()
		change(&c)
		l = append(l, bad{what, c})
	}
	for _, free := range []int{-1, 10, least, most} {
		spoil("free", func(c *api.Catalogue) { c.Free = free })
	}
	for _, id := range []string{"", "A", "2nd", "a--b", "a-", "-a", "a b", "é", strings.Repeat("a", 41)} {
		spoil("season "+id, func(c *api.Catalogue) { c.Seasons[7].ID = id })
		spoil("feast "+id, func(c *api.Catalogue) { c.Feasts[5].ID = id })
	}
	for _, rank := range []int{0, 10, -1, least, most} {
		spoil("rank of sundays", func(c *api.Catalogue) { c.Seasons[0].Sunday = rank })
		spoil("rank of other days", func(c *api.Catalogue) { c.Seasons[0].Weekday = rank })
		spoil("rank of a feast", func(c *api.Catalogue) { c.Feasts[0].Rank = rank })
		spoil("policy", func(c *api.Catalogue) { c.Feasts[0].Policy = rank })
	}
	for _, a := range []api.Anchor{{}, {Kind: 4}, fixed(2, 29), fixed(13, 1), fixed(1, 0), {Kind: api.Fixed, Month: 1, Day: 1, Count: 1}, paschal(-81), paschal(251), {Kind: api.Paschal, Month: 1}, nth(11, 27, 7, 1), nth(11, 27, 0, 0), nth(11, 27, 0, 9), nth(12, 26, 0, 1), nth(1, 6, 0, -1)} {
		spoil("start of the first season", func(c *api.Catalogue) { c.Seasons[0].Start = a })
		spoil("start of the last season", func(c *api.Catalogue) { c.Seasons[7].Start = a })
		spoil("day of a feast", func(c *api.Catalogue) { c.Feasts[5].At = a })
	}
	spoil("equal seasons", func(c *api.Catalogue) { c.Seasons[7].ID = c.Seasons[0].ID })
	spoil("equal feasts", func(c *api.Catalogue) { c.Feasts[5].ID = c.Feasts[4].ID })
	spoil("season named as a feast", func(c *api.Catalogue) { c.Seasons[3].ID = c.Feasts[2].ID })
	spoil("no seasons", func(c *api.Catalogue) { c.Seasons = nil })
	spoil("no seasons with capacity", func(c *api.Catalogue) { c.Seasons = c.Seasons[:0] })
	spoil("21 seasons", func(c *api.Catalogue) { c.Seasons = seasons(slices.Repeat([]api.Anchor{paschal(0)}, 21)...).Seasons })
	spoil("401 feasts", func(c *api.Catalogue) {
		for i := 6; i < 401; i++ {
			c.Feasts = append(c.Feasts, api.Feast{ID: "feast-" + strconv.Itoa(i), Rank: 1, Policy: 1, At: paschal(0)})
		}
	})
	return append(l, bad{"zero", api.Catalogue{}})
}

// goodCatalogues lists well-formed catalogues, whose errors are those of the year
// and the day only.
func goodCatalogues() []api.Catalogue {
	return []api.Catalogue{western(), seasons(fixed(1, 1)), seasons(fixed(12, 31)), seasons(paschal(0)), seasons(nth(11, 27, api.Sunday, 1)), seasons(slices.Repeat([]api.Anchor{paschal(0)}, 20)...)}
}

// goodYears lists years that have seasons.
func goodYears() []int {
	return []int{1583, 1584, 1818, 1943, 2000, 2023, 2024, 2096, api.MaxYear - 1, api.MaxYear}
}

// badYears lists years that are out of range.
func badYears() []int {
	return []int{0, 1, 2, 4, 1000, 1581, 1582, api.MaxYear + 1, api.MaxYear + 2, 2 * api.MaxYear, -1, -2, -1582, -1583, -2024, -api.MaxYear, 1<<32 + 2024, -1<<32 + 2024, 1 << 62, least, least + 1, least + 2024, most, most - 1}
}

// days lists days in, next to and far from a year. A year without days, as those
// that are no years of the calendar, has none of the first ones.
func days(year int) []int {
	l := []int{0, 1, -1, 2, 577_735, 577_814, 738_886, 730_120, 365_242_500_000, 365_242_500_001, -738_886, 1<<32 + 738_886, 1 << 40, -1 << 40, 1 << 62, -1 << 62, least, least + 1, most, most - 1}
	if first, errno := gregorian.First(year); errno == api.OK {
		last := first + 364
		if gregorian.Leap(year) {
			last++
		}
		l = append(l, first-1, first, first+1, first+200, last-1, last, last+1, first-365, first-366, last+365, last+366)
	}
	return l
}

// isIn reports whether a day is in a year.
func isIn(year, day int) bool {
	d, errno := gregorian.FromDay(day)
	return errno == api.OK && d.Year == year
}

// P18.1 and P18.2: a catalogue that is not well-formed is the first error,
// whether the year is in range or not, and whether the day is in the year or not.
func TestErrorsOfCatalogues(t *testing.T) {
	for _, b := range badCatalogues() {
		for _, year := range append(goodYears(), badYears()...) {
			expectNoStarts(t, b.what, b.Catalogue, year, api.ErrCatalogue)
			for _, day := range days(year) {
				expectError(t, b.what, b.Catalogue, year, day, api.ErrCatalogue)
			}
		}
	}
}

// P18.1 and P18.2: a year that is out of range is the next error, whether the
// day is in the year or not.
func TestErrorsOfYears(t *testing.T) {
	for _, c := range goodCatalogues() {
		for _, year := range badYears() {
			expectNoStarts(t, "year", c, year, api.ErrRange)
			for _, day := range days(year) {
				expectError(t, "year", c, year, day, api.ErrRange)
			}
		}
	}
}

// P18.1 and P18.2: the first and the last year with seasons, and the years next
// to them, with days that are in the year.
func TestYearsAtTheEndsOfTheRange(t *testing.T) {
	for _, c := range goodCatalogues() {
		for _, year := range goodYears() {
			if got, errno := season.Starts(c, year); len(got) != len(c.Seasons) || errno != api.OK {
				t.Errorf("Starts of %d = %v, %v", year, got, errno)
			}
		}
		expectNoStarts(t, "the year before the first", c, 1582, api.ErrRange)
		expectError(t, "the year before the first", c, 1582, dayOf(t, 1582, 12, 31), api.ErrRange)
		expectError(t, "the year before the first", c, 1582, dayOf(t, 1582, 4, 1), api.ErrRange)
		expectNoStarts(t, "the year after the last", c, api.MaxYear+1, api.ErrRange)
		expectError(t, "the year after the last", c, api.MaxYear+1, dayOf(t, api.MaxYear, 12, 31)+1, api.ErrRange)
		// Day 0 has no date, and there is no year 0.
		expectError(t, "the year 0", c, 0, 0, api.ErrRange)
	}
}

// P18.2: a day that is not in the year is the last error.
func TestErrorsOfDays(t *testing.T) {
	for _, c := range goodCatalogues() {
		for _, year := range goodYears() {
			for _, day := range days(year) {
				if !isIn(year, day) {
					expectError(t, "day", c, year, day, api.ErrDate)
				} else if _, errs := ask(c, year, day); errs != [3]api.Errno{} {
					t.Errorf("day %d of %d: errors %v", day, year, errs)
				}
			}
		}
	}
}

// P18.2: the first and the last days of years, and the days next to them.
func TestDaysAtTheEndsOfYears(t *testing.T) {
	c := western()
	for _, x := range []struct{ year, first, last int }{
		{1583, 577_814, 578_178},
		{2000, 730_120, 730_485},
		{2023, 738_521, 738_885},
		{2024, 738_886, 739_251},
		{api.MaxYear, 365_242_499_635, 365_242_500_000},
	} {
		for _, day := range []int{x.first, x.last} {
			if _, errs := ask(c, x.year, day); errs != [3]api.Errno{} {
				t.Errorf("day %d of %d: errors %v", day, x.year, errs)
			}
		}
		for _, day := range []int{x.first - 1, x.last + 1} {
			expectError(t, "day", c, x.year, day, api.ErrDate)
		}
	}
}

// P18.1 and P18.2: each two errors together, and all three.
func TestErrorsInOrder(t *testing.T) {
	c, b := western(), western()
	b.Free = 10
	expectError(t, "none but the catalogue", b, 2024, 738_886, api.ErrCatalogue)
	expectError(t, "none but the year", c, 1582, 577_800, api.ErrRange)
	expectError(t, "none but the day", c, 2024, 738_885, api.ErrDate)
	expectError(t, "catalogue and year", b, 1582, 577_800, api.ErrCatalogue)
	expectError(t, "catalogue and day", b, 2024, 738_885, api.ErrCatalogue)
	expectError(t, "year and day", c, 1582, 738_886, api.ErrRange)
	expectError(t, "all three", b, 1582, 738_886, api.ErrCatalogue)
	expectNoStarts(t, "none but the catalogue", b, 2024, api.ErrCatalogue)
	expectNoStarts(t, "none but the year", c, 1582, api.ErrRange)
	expectNoStarts(t, "catalogue and year", b, 1582, api.ErrCatalogue)
}
