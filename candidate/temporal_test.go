package candidate_test

import (
	"testing"

	"computus/api"
)

// P19.1 and P19.2: the Kind, Index, Rank and ID of the temporal candidate of
// Sundays and of other days of a leap year, when the season begins, goes on, and
// continues from the year before.
func TestTemporalOfALeapYear(t *testing.T) {
	c := roman()
	c.Feasts = nil
	expectKnown(t, c, 2024, []known{
		{1, 1, list(temporal(7, 7, "christmas"))},
		{1, 2, list(temporal(7, 7, "christmas"))},
		{1, 7, list(temporal(7, 5, "christmas"))},
		{1, 8, list(temporal(0, 9, "ordinary-time"))},
		{1, 9, list(temporal(0, 9, "ordinary-time"))},
		{1, 14, list(temporal(0, 6, "ordinary-time"))},
		{2, 13, list(temporal(0, 9, "ordinary-time"))},
		{2, 14, list(temporal(1, 8, "lent"))},
		{2, 18, list(temporal(1, 2, "lent"))},
		{2, 28, list(temporal(1, 8, "lent"))},
		{2, 29, list(temporal(1, 8, "lent"))},
		{3, 1, list(temporal(1, 8, "lent"))},
		{3, 24, list(temporal(2, 2, "holy-week"))},
		{3, 26, list(temporal(2, 2, "holy-week"))},
		{3, 30, list(temporal(2, 2, "holy-week"))},
		{3, 31, list(temporal(3, 1, "octave-of-easter"))},
		{4, 1, list(temporal(3, 1, "octave-of-easter"))},
		{4, 7, list(temporal(3, 1, "octave-of-easter"))},
		{4, 8, list(temporal(4, 9, "eastertide"))},
		{4, 14, list(temporal(4, 2, "eastertide"))},
		{5, 19, list(temporal(4, 2, "eastertide"))},
		{5, 20, list(temporal(5, 9, "ordinary-time-2"))},
		{6, 2, list(temporal(5, 6, "ordinary-time-2"))},
		{11, 30, list(temporal(5, 9, "ordinary-time-2"))},
		{12, 1, list(temporal(6, 2, "advent"))},
		{12, 2, list(temporal(6, 8, "advent"))},
		{12, 24, list(temporal(6, 8, "advent"))},
		{12, 25, list(temporal(7, 7, "christmas"))},
		{12, 29, list(temporal(7, 5, "christmas"))},
		{12, 31, list(temporal(7, 7, "christmas"))},
	})
}

// P19.1 and P19.2: the same in a common year, whose first and last day are Sundays.
func TestTemporalOfACommonYear(t *testing.T) {
	c := roman()
	c.Feasts = nil
	expectKnown(t, c, 2023, []known{
		{1, 1, list(temporal(7, 5, "christmas"))},
		{1, 2, list(temporal(7, 7, "christmas"))},
		{1, 8, list(temporal(7, 5, "christmas"))},
		{1, 9, list(temporal(0, 9, "ordinary-time"))},
		{1, 15, list(temporal(0, 6, "ordinary-time"))},
		{2, 28, list(temporal(1, 8, "lent"))},
		{3, 1, list(temporal(1, 8, "lent"))},
		{4, 1, list(temporal(1, 8, "lent"))},
		{4, 2, list(temporal(2, 2, "holy-week"))},
		{4, 3, list(temporal(2, 2, "holy-week"))},
		{4, 9, list(temporal(3, 1, "octave-of-easter"))},
		{4, 10, list(temporal(3, 1, "octave-of-easter"))},
		{4, 16, list(temporal(3, 1, "octave-of-easter"))},
		{4, 17, list(temporal(4, 9, "eastertide"))},
		{12, 2, list(temporal(5, 9, "ordinary-time-2"))},
		{12, 3, list(temporal(6, 2, "advent"))},
		{12, 4, list(temporal(6, 8, "advent"))},
		{12, 24, list(temporal(6, 2, "advent"))},
		{12, 25, list(temporal(7, 7, "christmas"))},
		{12, 31, list(temporal(7, 5, "christmas"))},
	})
}

// P19.1 and P19.2: the first year and the last one.
func TestTemporalAtTheEndsOfTheRange(t *testing.T) {
	c := roman()
	c.Feasts = nil
	expectKnown(t, c, 1583, []known{
		{1, 1, list(temporal(7, 7, "christmas"))},
		{1, 2, list(temporal(7, 5, "christmas"))},
		{1, 10, list(temporal(0, 9, "ordinary-time"))},
		{2, 23, list(temporal(1, 8, "lent"))},
		{4, 3, list(temporal(2, 2, "holy-week"))},
		{4, 10, list(temporal(3, 1, "octave-of-easter"))},
		{4, 18, list(temporal(4, 9, "eastertide"))},
		{11, 27, list(temporal(6, 2, "advent"))},
		{12, 25, list(temporal(7, 5, "christmas"))},
		{12, 31, list(temporal(7, 7, "christmas"))},
	})
	expectKnown(t, c, api.MaxYear, []known{
		{1, 1, list(temporal(7, 7, "christmas"))},
		{1, 10, list(temporal(0, 9, "ordinary-time"))},
		{2, 16, list(temporal(1, 8, "lent"))},
		{3, 19, list(temporal(1, 2, "lent"))},
		{3, 26, list(temporal(2, 2, "holy-week"))},
		{4, 2, list(temporal(3, 1, "octave-of-easter"))},
		{4, 10, list(temporal(4, 9, "eastertide"))},
		{5, 22, list(temporal(5, 9, "ordinary-time-2"))},
		{12, 3, list(temporal(6, 2, "advent"))},
		{12, 25, list(temporal(7, 7, "christmas"))},
		{12, 31, list(temporal(7, 5, "christmas"))},
	})
}

// P19.1 and P19.2: the Index is that of the catalogue, also if the seasons are not
// in the order of their starts, and a feast has no influence on it.
func TestTemporalOfSeasonsInOtherOrders(t *testing.T) {
	c := reversed(roman())
	c.Feasts = numbered(30, fixed(10, 10), paschal(0), nth(8, 1, api.Friday, 2))
	expectKnown(t, c, 2024, []known{
		{1, 1, list(temporal(0, 7, "christmas"))},
		{1, 7, list(temporal(0, 5, "christmas"))},
		{1, 8, list(temporal(7, 9, "ordinary-time"))},
		{2, 18, list(temporal(6, 2, "lent"))},
		{3, 24, list(temporal(5, 2, "holy-week"))},
		{4, 7, list(temporal(4, 1, "octave-of-easter"))},
		{4, 8, list(temporal(3, 9, "eastertide"))},
		{5, 20, list(temporal(2, 9, "ordinary-time-2"))},
		{12, 1, list(temporal(1, 2, "advent"))},
		{12, 25, list(temporal(0, 7, "christmas"))},
		{12, 31, list(temporal(0, 7, "christmas"))},
	})
}

// P19.1 and P19.2: of several seasons with the same start, the last one in the
// catalogue has the day, also if it continues from the year before.
func TestTemporalOfSeasonsWithTheSameStart(t *testing.T) {
	c := api.Catalogue{Seasons: []api.Season{
		seasonOf("summer", 4, 6, fixed(6, 24)),
		seasonOf("winter", 3, 7, fixed(12, 25)),
		seasonOf("also-winter", 5, 2, fixed(12, 25)),
		seasonOf("also-summer", 8, 1, fixed(6, 24)),
		seasonOf("spring", 9, 3, paschal(0)),
	}}
	expectKnown(t, c, 2024, []known{
		{1, 1, list(temporal(2, 2, "also-winter"))},
		{1, 7, list(temporal(2, 5, "also-winter"))},
		{3, 30, list(temporal(2, 2, "also-winter"))},
		{3, 31, list(temporal(4, 9, "spring"))},
		{4, 1, list(temporal(4, 3, "spring"))},
		{6, 23, list(temporal(4, 9, "spring"))},
		{6, 24, list(temporal(3, 1, "also-summer"))},
		{6, 25, list(temporal(3, 1, "also-summer"))},
		{6, 30, list(temporal(3, 8, "also-summer"))},
		{12, 24, list(temporal(3, 1, "also-summer"))},
		{12, 25, list(temporal(2, 2, "also-winter"))},
		{12, 29, list(temporal(2, 5, "also-winter"))},
		{12, 31, list(temporal(2, 2, "also-winter"))},
	})
}

// P19.1 and P19.2: several seasons that start on the first and the last day.
func TestTemporalOfSeasonsAtTheEndsOfTheYear(t *testing.T) {
	c := api.Catalogue{Seasons: []api.Season{
		seasonOf("first", 1, 9, fixed(12, 31)),
		seasonOf("second", 2, 8, fixed(1, 1)),
		seasonOf("third", 3, 7, fixed(12, 31)),
		seasonOf("fourth", 4, 6, fixed(1, 1)),
		seasonOf("fifth", 5, 5, paschal(0)),
	}}
	expectKnown(t, c, 2023, []known{
		{1, 1, list(temporal(3, 4, "fourth"))},
		{1, 2, list(temporal(3, 6, "fourth"))},
		{4, 9, list(temporal(4, 5, "fifth"))},
		{12, 30, list(temporal(4, 5, "fifth"))},
		{12, 31, list(temporal(2, 3, "third"))},
	})
	expectKnown(t, c, 2024, []known{
		{1, 1, list(temporal(3, 6, "fourth"))},
		{1, 7, list(temporal(3, 4, "fourth"))},
		{2, 29, list(temporal(3, 6, "fourth"))},
		{12, 30, list(temporal(4, 5, "fifth"))},
		{12, 31, list(temporal(2, 7, "third"))},
	})
}

// P19.1 and P19.2: seasons with anchors of each kind that have the same start in
// some years only.
func TestTemporalOfSeasonsWithTheSameStartInSomeYears(t *testing.T) {
	c := api.Catalogue{Seasons: []api.Season{
		seasonOf("one", 1, 9, fixed(3, 31)),
		seasonOf("two", 2, 8, paschal(0)),
		seasonOf("three", 3, 7, nth(3, 31, api.Sunday, -1)),
		seasonOf("four", 4, 4, fixed(12, 31)),
	}}
	expectKnown(t, c, 2018, []known{
		{1, 1, list(temporal(3, 4, "four"))},
		{3, 25, list(temporal(2, 3, "three"))},
		{3, 30, list(temporal(2, 7, "three"))},
		{3, 31, list(temporal(0, 9, "one"))},
		{4, 1, list(temporal(1, 2, "two"))},
		{4, 2, list(temporal(1, 8, "two"))},
		{12, 31, list(temporal(3, 4, "four"))},
	})
	expectKnown(t, c, 2024, []known{
		{3, 30, list(temporal(3, 4, "four"))},
		{3, 31, list(temporal(2, 3, "three"))},
		{4, 1, list(temporal(2, 7, "three"))},
		{12, 30, list(temporal(2, 7, "three"))},
	})
	expectKnown(t, c, 2025, []known{
		{3, 30, list(temporal(2, 3, "three"))},
		{3, 31, list(temporal(0, 9, "one"))},
		{4, 19, list(temporal(0, 9, "one"))},
		{4, 20, list(temporal(1, 2, "two"))},
		{4, 21, list(temporal(1, 8, "two"))},
	})
}

// P19.1 and P19.2: each pair of ranks of a season, on all days of two weeks.
func TestTemporalRanks(t *testing.T) {
	for sunday := 1; sunday <= 9; sunday++ {
		for weekday := 1; weekday <= 9; weekday++ {
			c := api.Catalogue{Seasons: []api.Season{seasonOf("any", sunday, weekday, fixed(2, 25))}}
			var dates []known
			for day := 12; day <= 25; day++ {
				rank := weekday
				// 18 and 25 February 2024 are Sundays.
				if day == 18 || day == 25 {
					rank = sunday
				}
				dates = append(dates, known{2, day, list(temporal(0, rank, "any"))})
			}
			expectKnown(t, c, 2024, dates)
		}
	}
}
