package season_test

import (
	"math"
	"slices"
	"strconv"
	"testing"

	"computus/api"
	"computus/gregorian"
	"computus/season"
)

const (
	least = math.MinInt
	most  = math.MaxInt
)

func fixed(month, day int) api.Anchor {
	return api.Anchor{Kind: api.Fixed, Month: month, Day: day}
}

func paschal(offset int) api.Anchor {
	return api.Anchor{Kind: api.Paschal, Offset: offset}
}

func nth(month, day, weekday, count int) api.Anchor {
	return api.Anchor{Kind: api.Nth, Month: month, Day: day, Weekday: weekday, Count: count}
}

// seasons returns a catalogue with a season for each of the starts.
func seasons(starts ...api.Anchor) api.Catalogue {
	c := api.Catalogue{Free: 5}
	for i, a := range starts {
		c.Seasons = append(c.Seasons, api.Season{ID: "season-" + strconv.Itoa(i), Sunday: 1 + i%9, Weekday: 9 - i%9, Start: a})
	}
	return c
}

// western returns a catalogue with the seasons of the western churches, and with
// feasts on some of their starts and on other days.
func western() api.Catalogue {
	c := seasons(nth(1, 8, api.Monday, 1), paschal(-46), paschal(-7), paschal(0), paschal(8), paschal(50), nth(11, 27, api.Sunday, 1), fixed(12, 25))
	for i, a := range []api.Anchor{fixed(1, 1), fixed(12, 25), paschal(0), paschal(39), nth(11, 27, api.Sunday, 1), fixed(6, 24)} {
		c.Feasts = append(c.Feasts, api.Feast{ID: "feast-" + strconv.Itoa(i), Rank: 1 + i, Policy: 1 + i%3, At: a})
	}
	return c
}

// reversed returns a catalogue with the seasons of c in the reverse order.
func reversed(c api.Catalogue) api.Catalogue {
	c.Seasons = slices.Clone(c.Seasons)
	slices.Reverse(c.Seasons)
	return c
}

// dayOf returns the day number of a date.
func dayOf(t *testing.T, year, month, day int) int {
	t.Helper()
	n, errno := gregorian.ToDay(api.Date{Year: year, Month: month, Day: day})
	if errno != api.OK {
		t.Fatalf("there is no %d-%d-%d", year, month, day)
	}
	return n
}

// place is what Of, Week and Begins say of a day.
type place struct {
	season, week int
	begins       bool
}

// ask returns what Of, Week and Begins return.
func ask(c api.Catalogue, year, day int) (place, [3]api.Errno) {
	var p place
	var errs [3]api.Errno
	p.season, errs[0] = season.Of(c, year, day)
	p.week, errs[1] = season.Week(c, year, day)
	p.begins, errs[2] = season.Begins(c, year, day)
	return p, errs
}

// expectPlace tests the place of a day.
func expectPlace(t *testing.T, c api.Catalogue, year, day int, want place) {
	t.Helper()
	if got, errs := ask(c, year, day); got != want || errs != [3]api.Errno{} {
		date, _ := gregorian.FromDay(day)
		t.Errorf("day %d (%v) of %d: %+v, %v, want %+v", day, date, year, got, errs, want)
	}
}

// known is a date with its place.
type known struct {
	year, month, day int
	place
}

// expectKnown tests the places of dates.
func expectKnown(t *testing.T, c api.Catalogue, l []known) {
	t.Helper()
	for _, x := range l {
		expectPlace(t, c, x.year, dayOf(t, x.year, x.month, x.day), x.place)
	}
}

// expectStarts tests the starts of the seasons in a year by their months and days.
func expectStarts(t *testing.T, c api.Catalogue, year int, dates ...[2]int) {
	t.Helper()
	var want []int
	for _, d := range dates {
		want = append(want, dayOf(t, year, d[0], d[1]))
	}
	if got, errno := season.Starts(c, year); errno != api.OK || !slices.Equal(got, want) {
		t.Errorf("Starts of %d = %v, %v, want %v", year, got, errno, want)
	}
}

// P18.1: the starts as day numbers.
func TestStartsOfKnownNumbers(t *testing.T) {
	for _, x := range []struct {
		year int
		want []int
	}{
		{1583, []int{577_823, 577_867, 577_906, 577_913, 577_921, 577_963, 578_144, 578_172}},
		{2023, []int{738_529, 738_573, 738_612, 738_619, 738_627, 738_669, 738_857, 738_879}},
		{2024, []int{738_893, 738_930, 738_969, 738_976, 738_984, 739_026, 739_221, 739_245}},
		{2096, []int{765_192, 765_243, 765_282, 765_289, 765_297, 765_339, 765_520, 765_543}},
		{api.MaxYear, []int{365_242_499_644, 365_242_499_681, 365_242_499_720, 365_242_499_727, 365_242_499_735, 365_242_499_777, 365_242_499_972, 365_242_499_994}},
	} {
		if got, errno := season.Starts(western(), x.year); errno != api.OK || !slices.Equal(got, x.want) {
			t.Errorf("Starts of %d = %v, %v, want %v", x.year, got, errno, x.want)
		}
	}
}

// P18.1: seasons with anchors of each kind, alone.
func TestStartsOfOneSeason(t *testing.T) {
	for _, x := range []struct {
		a                api.Anchor
		year, month, day int
	}{
		{fixed(1, 1), 2023, 1, 1}, {fixed(1, 1), 2024, 1, 1}, {fixed(2, 28), 2024, 2, 28}, {fixed(3, 1), 2024, 3, 1}, {fixed(12, 31), 2023, 12, 31}, {fixed(12, 31), 2024, 12, 31},
		{paschal(0), 1981, 4, 19}, {paschal(0), 1954, 4, 18}, {paschal(0), 2024, 3, 31}, {paschal(-46), 2096, 2, 29}, {paschal(-80), 1818, 1, 1}, {paschal(250), 1943, 12, 31},
		{nth(11, 27, api.Sunday, 1), 2022, 11, 27}, {nth(11, 27, api.Sunday, 1), 2023, 12, 3}, {nth(5, 31, api.Monday, -1), 2024, 5, 27}, {nth(1, 7, api.Saturday, -1), 2024, 1, 6}, {nth(11, 6, api.Saturday, 8), 2024, 12, 28},
	} {
		expectStarts(t, seasons(x.a), x.year, [2]int{x.month, x.day})
	}
}

// P18.1: the starts are in the order of the catalogue, and equal ones are there
// as often as seasons have them.
func TestStartsInTheOrderOfTheCatalogue(t *testing.T) {
	expectStarts(t, western(), 2024, [2]int{1, 8}, [2]int{2, 14}, [2]int{3, 24}, [2]int{3, 31}, [2]int{4, 8}, [2]int{5, 20}, [2]int{12, 1}, [2]int{12, 25})
	expectStarts(t, reversed(western()), 2024, [2]int{12, 25}, [2]int{12, 1}, [2]int{5, 20}, [2]int{4, 8}, [2]int{3, 31}, [2]int{3, 24}, [2]int{2, 14}, [2]int{1, 8})
	expectStarts(t, seasons(fixed(6, 24), fixed(12, 25), paschal(0), fixed(1, 1)), 2024, [2]int{6, 24}, [2]int{12, 25}, [2]int{3, 31}, [2]int{1, 1})
	expectStarts(t, seasons(fixed(3, 31), fixed(6, 1), paschal(0), fixed(3, 31), fixed(6, 1)), 2024, [2]int{3, 31}, [2]int{6, 1}, [2]int{3, 31}, [2]int{3, 31}, [2]int{6, 1})
	expectStarts(t, seasons(paschal(0), fixed(4, 1)), 2018, [2]int{4, 1}, [2]int{4, 1})
	expectStarts(t, seasons(paschal(0), fixed(4, 1)), 2024, [2]int{3, 31}, [2]int{4, 1})
	expectStarts(t, seasons(paschal(0), fixed(4, 1)), 2025, [2]int{4, 20}, [2]int{4, 1})
}

// P18.1: as many starts as there are seasons, for each number of seasons.
func TestStartsOfManySeasons(t *testing.T) {
	var anchors []api.Anchor
	var dates [][2]int
	for i := range 20 {
		month, day := 1+i*7%12, 1+i
		anchors = append(anchors, fixed(month, day))
		dates = append(dates, [2]int{month, day})
		expectStarts(t, seasons(anchors...), 2023, dates...)
		expectStarts(t, seasons(anchors...), 2024, dates...)
	}
}

// P18.2: the example of the chapter.
func TestSingleSeason(t *testing.T) {
	expectKnown(t, seasons(fixed(1, 1)), []known{
		{2023, 1, 1, place{0, 1, true}},
		{2023, 1, 2, place{0, 1, false}},
		{2023, 1, 7, place{0, 1, false}},
		{2023, 1, 8, place{0, 2, false}},
		{2023, 2, 28, place{0, 9, false}},
		{2023, 3, 1, place{0, 9, false}},
		{2023, 12, 30, place{0, 52, false}},
		{2023, 12, 31, place{0, 53, false}},
		{2024, 1, 1, place{0, 0, true}},
		{2024, 1, 6, place{0, 0, false}},
		{2024, 1, 7, place{0, 1, false}},
		{2024, 1, 8, place{0, 1, false}},
		{2024, 12, 31, place{0, 52, false}},
	})
	for _, a := range []api.Anchor{fixed(12, 31), fixed(6, 24), paschal(0), paschal(-80), paschal(250), nth(11, 27, api.Sunday, 1), nth(5, 31, api.Monday, -1)} {
		for _, year := range []int{1583, 1818, 1943, 2023, 2024, api.MaxYear} {
			first, last := dayOf(t, year, 1, 1), dayOf(t, year, 12, 31)
			for day := first; day <= last; day++ {
				if got, errno := season.Of(seasons(a), year, day); got != 0 || errno != api.OK {
					t.Errorf("Of day %d of %d, %+v = %d, %v, want 0", day, year, a, got, errno)
				}
			}
		}
	}
}

// P18.2: the first, the last and other days of seasons in leap years; in 2096,
// 29 February is a start.
func TestPlacesInLeapYears(t *testing.T) {
	expectKnown(t, western(), []known{
		{2024, 1, 1, place{7, 0, false}},
		{2024, 1, 6, place{7, 0, false}},
		{2024, 1, 7, place{7, 1, false}},
		{2024, 1, 8, place{0, 0, true}},
		{2024, 1, 9, place{0, 0, false}},
		{2024, 2, 13, place{0, 5, false}},
		{2024, 2, 14, place{1, 0, true}},
		{2024, 2, 15, place{1, 0, false}},
		{2024, 3, 23, place{1, 5, false}},
		{2024, 3, 24, place{2, 1, true}},
		{2024, 3, 25, place{2, 1, false}},
		{2024, 3, 30, place{2, 1, false}},
		{2024, 3, 31, place{3, 1, true}},
		{2024, 4, 1, place{3, 1, false}},
		{2024, 4, 7, place{3, 2, false}},
		{2024, 4, 8, place{4, 0, true}},
		{2024, 4, 9, place{4, 0, false}},
		{2024, 5, 19, place{4, 6, false}},
		{2024, 5, 20, place{5, 0, true}},
		{2024, 5, 21, place{5, 0, false}},
		{2024, 8, 11, place{5, 12, false}},
		{2024, 11, 30, place{5, 27, false}},
		{2024, 12, 1, place{6, 1, true}},
		{2024, 12, 2, place{6, 1, false}},
		{2024, 12, 24, place{6, 4, false}},
		{2024, 12, 25, place{7, 0, true}},
		{2024, 12, 26, place{7, 0, false}},
		{2024, 12, 31, place{7, 1, false}},
		{2096, 2, 28, place{0, 7, false}},
		{2096, 2, 29, place{1, 0, true}},
		{2096, 3, 1, place{1, 0, false}},
		{2096, 4, 14, place{2, 1, false}},
		{2096, 4, 15, place{3, 1, true}},
		{2096, 4, 16, place{3, 1, false}},
	})
}

// P18.2: the same in common years, which begin and do not begin on a Sunday.
func TestPlacesInCommonYears(t *testing.T) {
	expectKnown(t, western(), []known{
		{2023, 1, 1, place{7, 1, false}},
		{2023, 1, 7, place{7, 1, false}},
		{2023, 1, 8, place{7, 2, false}},
		{2023, 1, 9, place{0, 0, true}},
		{2023, 1, 10, place{0, 0, false}},
		{2023, 2, 21, place{0, 6, false}},
		{2023, 2, 22, place{1, 0, true}},
		{2023, 4, 1, place{1, 5, false}},
		{2023, 4, 2, place{2, 1, true}},
		{2023, 4, 8, place{2, 1, false}},
		{2023, 4, 9, place{3, 1, true}},
		{2023, 4, 16, place{3, 2, false}},
		{2023, 4, 17, place{4, 0, true}},
		{2023, 5, 28, place{4, 6, false}},
		{2023, 5, 29, place{5, 0, true}},
		{2023, 8, 11, place{5, 10, false}},
		{2023, 12, 2, place{5, 26, false}},
		{2023, 12, 3, place{6, 1, true}},
		{2023, 12, 24, place{6, 4, false}},
		{2023, 12, 25, place{7, 0, true}},
		{2023, 12, 31, place{7, 1, false}},
		{1583, 1, 1, place{7, 0, false}},
		{1583, 1, 9, place{7, 2, false}},
		{1583, 1, 10, place{0, 0, true}},
		{1583, 11, 26, place{5, 25, false}},
		{1583, 11, 27, place{6, 1, true}},
		{1583, 12, 24, place{6, 4, false}},
		{1583, 12, 25, place{7, 1, true}},
		{1583, 12, 26, place{7, 1, false}},
		{1583, 12, 31, place{7, 1, false}},
	})
}

// P18.2: the last year.
func TestPlacesInTheLastYear(t *testing.T) {
	expectKnown(t, western(), []known{
		{api.MaxYear, 1, 1, place{7, 0, false}},
		{api.MaxYear, 1, 9, place{7, 2, false}},
		{api.MaxYear, 1, 10, place{0, 0, true}},
		{api.MaxYear, 2, 15, place{0, 5, false}},
		{api.MaxYear, 2, 16, place{1, 0, true}},
		{api.MaxYear, 4, 1, place{2, 1, false}},
		{api.MaxYear, 4, 2, place{3, 1, true}},
		{api.MaxYear, 8, 11, place{5, 11, false}},
		{api.MaxYear, 12, 2, place{5, 27, false}},
		{api.MaxYear, 12, 3, place{6, 1, true}},
		{api.MaxYear, 12, 24, place{6, 4, false}},
		{api.MaxYear, 12, 25, place{7, 0, true}},
		{api.MaxYear, 12, 31, place{7, 1, false}},
	})
}

// P18.2: the index is that of the catalogue, also if the seasons are not in the
// order of their starts.
func TestPlacesOfSeasonsInOtherOrders(t *testing.T) {
	expectKnown(t, reversed(western()), []known{
		{2024, 1, 1, place{0, 0, false}},
		{2024, 1, 7, place{0, 1, false}},
		{2024, 1, 8, place{7, 0, true}},
		{2024, 2, 14, place{6, 0, true}},
		{2024, 3, 24, place{5, 1, true}},
		{2024, 3, 31, place{4, 1, true}},
		{2024, 4, 7, place{4, 2, false}},
		{2024, 4, 8, place{3, 0, true}},
		{2024, 5, 20, place{2, 0, true}},
		{2024, 8, 11, place{2, 12, false}},
		{2024, 12, 1, place{1, 1, true}},
		{2024, 12, 25, place{0, 0, true}},
		{2024, 12, 31, place{0, 1, false}},
	})
	expectKnown(t, seasons(fixed(6, 24), fixed(12, 25), paschal(0), fixed(1, 8)), []known{
		{2024, 1, 1, place{1, 0, false}},
		{2024, 1, 7, place{1, 1, false}},
		{2024, 1, 8, place{3, 0, true}},
		{2024, 3, 30, place{3, 11, false}},
		{2024, 3, 31, place{2, 1, true}},
		{2024, 6, 23, place{2, 13, false}},
		{2024, 6, 24, place{0, 0, true}},
		{2024, 12, 24, place{0, 26, false}},
		{2024, 12, 25, place{1, 0, true}},
		{2024, 12, 31, place{1, 1, false}},
	})
}
