package season_test

import (
	"testing"

	"computus/api"
)

// P18.2: of several seasons with the same start, next to each other or first and
// last in the catalogue, the last one has the day.
func TestPlacesOfTheSameStart(t *testing.T) {
	expectKnown(t, seasons(fixed(3, 1), fixed(6, 24), fixed(6, 24), fixed(12, 25)), []known{
		{2024, 3, 1, place{0, 0, true}},
		{2024, 6, 23, place{0, 17, false}},
		{2024, 6, 24, place{2, 0, true}},
		{2024, 6, 25, place{2, 0, false}},
		{2024, 9, 1, place{2, 10, false}},
		{2024, 12, 24, place{2, 26, false}},
		{2024, 12, 25, place{3, 0, true}},
	})
	expectKnown(t, seasons(fixed(6, 24), fixed(3, 1), fixed(12, 25), fixed(6, 24)), []known{
		{2024, 1, 1, place{2, 0, false}},
		{2024, 3, 1, place{1, 0, true}},
		{2024, 6, 23, place{1, 17, false}},
		{2024, 6, 24, place{3, 0, true}},
		{2024, 12, 24, place{3, 26, false}},
		{2024, 12, 25, place{2, 0, true}},
	})
	expectKnown(t, seasons(fixed(6, 24), fixed(3, 1), fixed(6, 24), fixed(12, 25), fixed(6, 24), fixed(9, 1)), []known{
		{2024, 1, 1, place{3, 0, false}},
		{2024, 6, 23, place{1, 17, false}},
		{2024, 6, 24, place{4, 0, true}},
		{2024, 6, 25, place{4, 0, false}},
		{2024, 8, 31, place{4, 9, false}},
		{2024, 9, 1, place{5, 1, true}},
		{2024, 12, 24, place{5, 17, false}},
		{2024, 12, 25, place{3, 0, true}},
	})
}

// P18.2: seasons with anchors of other kinds whose starts are the same in some
// years only, in either order in the catalogue.
func TestPlacesOfTheSameStartInSomeYears(t *testing.T) {
	expectKnown(t, seasons(paschal(0), fixed(4, 1)), []known{
		{2018, 1, 1, place{1, 0, false}},
		{2018, 3, 31, place{1, 12, false}},
		{2018, 4, 1, place{1, 1, true}},
		{2018, 4, 2, place{1, 1, false}},
		{2018, 12, 31, place{1, 40, false}},
		{2024, 1, 1, place{1, 0, false}},
		{2024, 3, 30, place{1, 12, false}},
		{2024, 3, 31, place{0, 1, true}},
		{2024, 4, 1, place{1, 0, true}},
		{2024, 4, 2, place{1, 0, false}},
		{2025, 1, 1, place{0, 0, false}},
		{2025, 3, 31, place{0, 13, false}},
		{2025, 4, 1, place{1, 0, true}},
		{2025, 4, 19, place{1, 2, false}},
		{2025, 4, 20, place{0, 1, true}},
		{2025, 12, 31, place{0, 37, false}},
	})
	expectKnown(t, seasons(fixed(4, 1), paschal(0)), []known{
		{2018, 1, 1, place{1, 0, false}},
		{2018, 4, 1, place{1, 1, true}},
		{2018, 12, 31, place{1, 40, false}},
		{2024, 1, 1, place{0, 0, false}},
		{2024, 3, 31, place{1, 1, true}},
		{2024, 4, 1, place{0, 0, true}},
		{2025, 1, 1, place{1, 0, false}},
		{2025, 4, 1, place{0, 0, true}},
		{2025, 4, 19, place{0, 2, false}},
		{2025, 4, 20, place{1, 1, true}},
	})
	expectKnown(t, seasons(nth(11, 27, api.Sunday, 1), fixed(12, 1)), []known{
		{2024, 1, 1, place{1, 0, false}},
		{2024, 11, 30, place{1, 47, false}},
		{2024, 12, 1, place{1, 1, true}},
		{2024, 12, 31, place{1, 5, false}},
		{2023, 1, 1, place{0, 1, false}},
		{2023, 11, 30, place{0, 48, false}},
		{2023, 12, 1, place{1, 0, true}},
		{2023, 12, 2, place{1, 0, false}},
		{2023, 12, 3, place{0, 1, true}},
	})
	expectKnown(t, seasons(fixed(12, 1), nth(11, 27, api.Sunday, 1)), []known{
		{2024, 1, 1, place{1, 0, false}},
		{2024, 12, 1, place{1, 1, true}},
		{2023, 12, 1, place{0, 0, true}},
		{2023, 12, 3, place{1, 1, true}},
	})
}

// P18.2: of several seasons with the latest start, the last one in the catalogue
// continues from the year before.
func TestPlacesOfTheSameLatestStart(t *testing.T) {
	expectKnown(t, seasons(fixed(12, 25), fixed(3, 1), fixed(12, 25), fixed(6, 24)), []known{
		{2024, 1, 1, place{2, 0, false}},
		{2024, 2, 29, place{2, 8, false}},
		{2024, 3, 1, place{1, 0, true}},
		{2024, 6, 24, place{3, 0, true}},
		{2024, 12, 24, place{3, 26, false}},
		{2024, 12, 25, place{2, 0, true}},
		{2024, 12, 31, place{2, 1, false}},
	})
	expectKnown(t, seasons(fixed(3, 1), fixed(12, 25), fixed(12, 25), fixed(6, 24)), []known{
		{2024, 1, 1, place{2, 0, false}},
		{2024, 2, 29, place{2, 8, false}},
		{2024, 3, 1, place{0, 0, true}},
		{2024, 12, 25, place{2, 0, true}},
	})
	expectKnown(t, seasons(fixed(12, 25), fixed(12, 25)), []known{
		{2024, 1, 1, place{1, 0, false}},
		{2024, 12, 24, place{1, 51, false}},
		{2024, 12, 25, place{1, 0, true}},
		{2024, 12, 31, place{1, 1, false}},
	})
}

// P18.2: the season that continues is the one with the latest start in the year
// of the day, even if another one had the latest start in the year before.
func TestPlacesOfLatestStartsThatChange(t *testing.T) {
	expectKnown(t, seasons(fixed(12, 15), paschal(250)), []known{
		{2001, 1, 1, place{1, 0, false}},
		{2001, 12, 14, place{1, 49, false}},
		{2001, 12, 15, place{0, 0, true}},
		{2001, 12, 20, place{0, 1, false}},
		{2001, 12, 21, place{1, 0, true}},
		{2001, 12, 31, place{1, 2, false}},
		{2002, 1, 1, place{0, 0, false}},
		{2002, 12, 5, place{0, 48, false}},
		{2002, 12, 6, place{1, 0, true}},
		{2002, 12, 14, place{1, 1, false}},
		{2002, 12, 15, place{0, 1, true}},
		{2002, 12, 31, place{0, 3, false}},
		{2012, 1, 1, place{0, 1, false}},
		{2012, 12, 13, place{0, 50, false}},
		{2012, 12, 14, place{1, 0, true}},
		{2012, 12, 15, place{0, 0, true}},
		{2012, 12, 16, place{0, 1, false}},
	})
}

// P18.2: 20 seasons with the same start, and 20 with starts on 20 days.
func TestPlacesOfTwentySeasons(t *testing.T) {
	var same, days []api.Anchor
	for i := range 20 {
		same = append(same, paschal(0))
		days = append(days, fixed(4, 1+i*7%20))
	}
	expectKnown(t, seasons(same...), []known{
		{2024, 1, 1, place{19, 0, false}},
		{2024, 3, 30, place{19, 12, false}},
		{2024, 3, 31, place{19, 1, true}},
		{2024, 12, 31, place{19, 40, false}},
	})
	c := seasons(days...)
	for i := range 20 {
		// 7 April 2024 is a Sunday.
		day := 1 + i*7%20
		week := 0
		if day == 7 || day == 14 {
			week = 1
		}
		expectKnown(t, c, []known{{2024, 4, day, place{i, week, true}}})
	}
	expectKnown(t, c, []known{
		{2024, 3, 31, place{17, 13, false}},
		{2024, 4, 21, place{17, 1, false}},
	})
}

// P18.2: seasons that start on the first and on the last day of the year, also
// with anchors that are there in some years only.
func TestPlacesOfStartsAtTheEndsOfTheYear(t *testing.T) {
	for _, c := range []api.Catalogue{seasons(fixed(1, 1), paschal(-80)), seasons(paschal(-80), fixed(1, 1))} {
		expectKnown(t, c, []known{
			{1818, 1, 1, place{1, 0, true}},
			{1818, 1, 2, place{1, 0, false}},
			{1818, 12, 31, place{1, 52, false}},
		})
	}
	expectKnown(t, seasons(fixed(1, 1), paschal(-80)), []known{
		{2000, 1, 1, place{0, 0, true}},
		{2000, 1, 2, place{0, 1, false}},
		{2000, 2, 2, place{0, 5, false}},
		{2000, 2, 3, place{1, 0, true}},
		{2000, 12, 31, place{1, 48, false}},
	})
	for _, c := range []api.Catalogue{seasons(fixed(12, 31), paschal(250)), seasons(paschal(250), fixed(12, 31))} {
		expectKnown(t, c, []known{
			{1943, 1, 1, place{1, 0, false}},
			{1943, 12, 30, place{1, 52, false}},
			{1943, 12, 31, place{1, 0, true}},
		})
	}
	expectKnown(t, seasons(fixed(12, 31)), []known{
		{2023, 1, 1, place{0, 1, false}},
		{2023, 1, 7, place{0, 1, false}},
		{2023, 1, 8, place{0, 2, false}},
		{2023, 12, 30, place{0, 52, false}},
		{2023, 12, 31, place{0, 1, true}},
		{2024, 1, 1, place{0, 0, false}},
		{2024, 12, 30, place{0, 52, false}},
		{2024, 12, 31, place{0, 0, true}},
	})
	expectKnown(t, seasons(fixed(12, 31), fixed(1, 1)), []known{
		{2024, 1, 1, place{1, 0, true}},
		{2024, 12, 30, place{1, 52, false}},
		{2024, 12, 31, place{0, 0, true}},
		{2023, 1, 1, place{1, 1, true}},
		{2023, 12, 30, place{1, 52, false}},
		{2023, 12, 31, place{0, 1, true}},
	})
}

// P18.2: weeks of seasons that start on a Sunday, on the day before and on the
// day after one.
func TestWeeksFromStartsNextToASunday(t *testing.T) {
	expectKnown(t, seasons(paschal(0), fixed(3, 1)), []known{
		{2024, 3, 30, place{1, 4, false}},
		{2024, 3, 31, place{0, 1, true}},
		{2024, 4, 1, place{0, 1, false}},
		{2024, 4, 6, place{0, 1, false}},
		{2024, 4, 7, place{0, 2, false}},
		{2024, 12, 31, place{0, 40, false}},
	})
	expectKnown(t, seasons(paschal(-1), fixed(3, 1)), []known{
		{2024, 3, 29, place{1, 4, false}},
		{2024, 3, 30, place{0, 0, true}},
		{2024, 3, 31, place{0, 1, false}},
		{2024, 4, 6, place{0, 1, false}},
		{2024, 4, 7, place{0, 2, false}},
		{2024, 12, 31, place{0, 40, false}},
	})
	expectKnown(t, seasons(paschal(1), fixed(3, 1)), []known{
		{2024, 3, 31, place{1, 5, false}},
		{2024, 4, 1, place{0, 0, true}},
		{2024, 4, 2, place{0, 0, false}},
		{2024, 4, 6, place{0, 0, false}},
		{2024, 4, 7, place{0, 1, false}},
		{2024, 12, 31, place{0, 39, false}},
	})
}

// P18.2: weeks of a season that continues, from 1 January on each day of the week.
func TestWeeksOfSeasonsThatContinue(t *testing.T) {
	for _, x := range []struct {
		year, firstSunday, lastWeek int
	}{
		{2017, 1, 52}, {2018, 7, 51}, {2019, 6, 51}, {2020, 5, 51}, {2021, 3, 51}, {2022, 2, 51}, {2023, 1, 52}, {2024, 7, 51}, {2025, 5, 51}, {2026, 4, 51},
	} {
		c := seasons(fixed(12, 25))
		for day := 1; day <= 31; day++ {
			week := 0
			for sunday := x.firstSunday; sunday <= day; sunday += 7 {
				week++
			}
			expectKnown(t, c, []known{{x.year, 1, day, place{0, week, false}}})
		}
		expectKnown(t, c, []known{{x.year, 12, 24, place{0, x.lastWeek, false}}})
	}
}
