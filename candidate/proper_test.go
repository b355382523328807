package candidate_test

import (
	"slices"
	"strconv"
	"testing"

	"computus/api"
	"computus/candidate"
)

// numbered returns n feasts with different identifiers, with the anchors in turn.
func numbered(n int, anchors ...api.Anchor) []api.Feast {
	var l []api.Feast
	for i := range n {
		l = append(l, feastOf("feast-"+strconv.Itoa(i), 1+i%9, anchors[i%len(anchors)]))
	}
	return l
}

// propers returns the proper candidates of the feasts for which holds returns true.
func propers(feasts []api.Feast, holds func(index int) bool) []candidate.Candidate {
	var l []candidate.Candidate
	for i, f := range feasts {
		if holds(i) {
			l = append(l, proper(i, f.Rank, f.ID))
		}
	}
	return l
}

// P19.1 and P19.2: the Kind, Index, Rank and ID of feasts on days with one and
// with several of them, in a year in which two feasts are on 24 June.
func TestProperOfKnownDates(t *testing.T) {
	expectKnown(t, roman(), 2022, []known{
		{1, 1, list(temporal(7, 7, "christmas"), proper(1, 3, "mary"))},
		{1, 2, list(temporal(7, 5, "christmas"))},
		{1, 6, list(temporal(7, 7, "christmas"), proper(2, 2, "epiphany"))},
		{3, 19, list(temporal(1, 8, "lent"), proper(3, 3, "joseph"))},
		{3, 25, list(temporal(1, 8, "lent"), proper(4, 3, "annunciation"))},
		{4, 17, list(temporal(3, 1, "octave-of-easter"), proper(5, 1, "easter-sunday"))},
		{4, 22, list(temporal(3, 1, "octave-of-easter"), proper(20, 6, "rogation"))},
		{4, 25, list(temporal(4, 9, "eastertide"), proper(6, 5, "mark"))},
		{5, 26, list(temporal(4, 9, "eastertide"), proper(7, 2, "ascension"))},
		{5, 30, list(temporal(4, 9, "eastertide"), proper(12, 9, "memorial-day"))},
		{5, 31, list(temporal(4, 9, "eastertide"), proper(13, 5, "visitation"))},
		{6, 12, list(temporal(5, 6, "ordinary-time-2"), proper(8, 3, "trinity"))},
		{6, 16, list(temporal(5, 9, "ordinary-time-2"), proper(9, 3, "corpus-christi"))},
		{6, 23, list(temporal(5, 9, "ordinary-time-2"))},
		{6, 24, list(temporal(5, 9, "ordinary-time-2"), proper(10, 3, "sacred-heart"), proper(11, 3, "john-baptist"))},
		{6, 25, list(temporal(5, 9, "ordinary-time-2"))},
		{11, 20, list(temporal(5, 6, "ordinary-time-2"), proper(14, 3, "christ-the-king"))},
		{11, 22, list(temporal(5, 9, "ordinary-time-2"), proper(15, 7, "cecilia"))},
		{11, 24, list(temporal(5, 9, "ordinary-time-2"), proper(16, 8, "thanksgiving"))},
		{12, 8, list(temporal(6, 8, "advent"), proper(17, 3, "immaculate-conception"))},
		{12, 24, list(temporal(6, 8, "advent"))},
		{12, 25, list(temporal(7, 5, "christmas"), proper(18, 1, "nativity"), proper(19, 4, "holy-family"))},
		{12, 31, list(temporal(7, 7, "christmas"), proper(0, 8, "sylvester"))},
	})
}

// P19.1 and P19.2: the same feasts on other days, in a leap year and at the ends
// of the range.
func TestProperOfKnownDatesInOtherYears(t *testing.T) {
	expectKnown(t, roman(), 2024, []known{
		{3, 25, list(temporal(2, 2, "holy-week"), proper(4, 3, "annunciation"))},
		{3, 31, list(temporal(3, 1, "octave-of-easter"), proper(5, 1, "easter-sunday"))},
		{5, 27, list(temporal(5, 9, "ordinary-time-2"), proper(12, 9, "memorial-day"))},
		{6, 7, list(temporal(5, 9, "ordinary-time-2"), proper(10, 3, "sacred-heart"))},
		{6, 24, list(temporal(5, 9, "ordinary-time-2"), proper(11, 3, "john-baptist"))},
		{12, 8, list(temporal(6, 2, "advent"), proper(17, 3, "immaculate-conception"))},
		{12, 25, list(temporal(7, 7, "christmas"), proper(18, 1, "nativity"))},
		{12, 29, list(temporal(7, 5, "christmas"), proper(19, 4, "holy-family"))},
		{12, 31, list(temporal(7, 7, "christmas"), proper(0, 8, "sylvester"))},
	})
	expectKnown(t, roman(), 1583, []known{
		{1, 1, list(temporal(7, 7, "christmas"), proper(1, 3, "mary"))},
		{4, 10, list(temporal(3, 1, "octave-of-easter"), proper(5, 1, "easter-sunday"))},
		{6, 17, list(temporal(5, 9, "ordinary-time-2"), proper(10, 3, "sacred-heart"))},
		{12, 25, list(temporal(7, 5, "christmas"), proper(18, 1, "nativity"), proper(19, 4, "holy-family"))},
		{12, 31, list(temporal(7, 7, "christmas"), proper(0, 8, "sylvester"))},
	})
	expectKnown(t, roman(), api.MaxYear, []known{
		{1, 1, list(temporal(7, 7, "christmas"), proper(1, 3, "mary"))},
		{3, 19, list(temporal(1, 2, "lent"), proper(3, 3, "joseph"))},
		{4, 2, list(temporal(3, 1, "octave-of-easter"), proper(5, 1, "easter-sunday"))},
		{5, 29, list(temporal(5, 9, "ordinary-time-2"), proper(12, 9, "memorial-day"))},
		{12, 31, list(temporal(7, 5, "christmas"), proper(0, 8, "sylvester"), proper(19, 4, "holy-family"))},
	})
}

// P19.1 and P19.2: feasts with anchors of each kind that are on the same day in
// some years only. Their ranks are in the reverse order of the catalogue, which
// the candidates keep.
func TestProperOfTheSameDayInSomeYears(t *testing.T) {
	c := oneSeason(
		feastOf("late", 9, fixed(12, 31)),
		feastOf("sunday-of-march", 8, nth(3, 31, api.Sunday, -1)),
		feastOf("fixed", 7, fixed(3, 31)),
		feastOf("easter-sunday", 6, paschal(0)),
		feastOf("april", 5, fixed(4, 1)),
		feastOf("easter-monday", 4, paschal(1)),
		feastOf("fifth-sunday", 3, nth(3, 29, api.Sunday, 1)),
		feastOf("monday", 2, nth(4, 1, api.Monday, 1)),
		feastOf("also-fixed", 1, fixed(3, 31)),
	)
	expectKnown(t, c, 2018, []known{
		{3, 25, list(temporal(0, 5, "year"), proper(1, 8, "sunday-of-march"))},
		{3, 31, list(temporal(0, 6, "year"), proper(2, 7, "fixed"), proper(8, 1, "also-fixed"))},
		{4, 1, list(temporal(0, 5, "year"), proper(3, 6, "easter-sunday"), proper(4, 5, "april"), proper(6, 3, "fifth-sunday"))},
		{4, 2, list(temporal(0, 6, "year"), proper(5, 4, "easter-monday"), proper(7, 2, "monday"))},
		{12, 31, list(temporal(0, 6, "year"), proper(0, 9, "late"))},
	})
	expectKnown(t, c, 2024, []known{
		{3, 25, list(temporal(0, 6, "year"))},
		{3, 30, list(temporal(0, 6, "year"))},
		{3, 31, list(temporal(0, 5, "year"), proper(1, 8, "sunday-of-march"), proper(2, 7, "fixed"), proper(3, 6, "easter-sunday"), proper(6, 3, "fifth-sunday"), proper(8, 1, "also-fixed"))},
		{4, 1, list(temporal(0, 6, "year"), proper(4, 5, "april"), proper(5, 4, "easter-monday"), proper(7, 2, "monday"))},
		{4, 2, list(temporal(0, 6, "year"))},
	})
	expectKnown(t, c, 2025, []known{
		{3, 30, list(temporal(0, 5, "year"), proper(1, 8, "sunday-of-march"), proper(6, 3, "fifth-sunday"))},
		{3, 31, list(temporal(0, 6, "year"), proper(2, 7, "fixed"), proper(8, 1, "also-fixed"))},
		{4, 1, list(temporal(0, 6, "year"), proper(4, 5, "april"))},
		{4, 20, list(temporal(0, 5, "year"), proper(3, 6, "easter-sunday"))},
		{4, 21, list(temporal(0, 6, "year"), proper(5, 4, "easter-monday"))},
	})
	expectKnown(t, c, 2027, []known{
		{3, 28, list(temporal(0, 5, "year"), proper(1, 8, "sunday-of-march"), proper(3, 6, "easter-sunday"))},
		{3, 29, list(temporal(0, 6, "year"), proper(5, 4, "easter-monday"))},
		{4, 4, list(temporal(0, 5, "year"), proper(6, 3, "fifth-sunday"))},
		{4, 5, list(temporal(0, 6, "year"), proper(7, 2, "monday"))},
	})
}

// P19.1 and P19.2: feasts on the first and the last day of common and leap years,
// and on Easter, with anchors of each kind; 1818 and 1943 have the earliest and
// the latest Easter.
func TestProperAtTheEndsOfTheYear(t *testing.T) {
	c := oneSeason(
		feastOf("begin", 2, fixed(1, 1)),
		feastOf("early", 3, paschal(-80)),
		feastOf("sunday-before", 4, nth(1, 7, api.Sunday, -1)),
		feastOf("end", 5, fixed(12, 31)),
		feastOf("late", 6, paschal(250)),
		feastOf("last-friday", 7, nth(12, 31, api.Friday, -1)),
		feastOf("easter-sunday", 1, paschal(0)),
		feastOf("sunday-of-april", 8, nth(4, 25, api.Sunday, -1)),
	)
	expectKnown(t, c, 1818, []known{
		{1, 1, list(temporal(0, 6, "year"), proper(0, 2, "begin"), proper(1, 3, "early"))},
		{1, 2, list(temporal(0, 6, "year"))},
		{3, 22, list(temporal(0, 5, "year"), proper(6, 1, "easter-sunday"))},
		{12, 31, list(temporal(0, 6, "year"), proper(3, 5, "end"))},
	})
	expectKnown(t, c, 1943, []known{
		{1, 1, list(temporal(0, 6, "year"), proper(0, 2, "begin"))},
		{4, 25, list(temporal(0, 5, "year"), proper(6, 1, "easter-sunday"), proper(7, 8, "sunday-of-april"))},
		{12, 30, list(temporal(0, 6, "year"))},
		{12, 31, list(temporal(0, 6, "year"), proper(3, 5, "end"), proper(4, 6, "late"), proper(5, 7, "last-friday"))},
	})
	expectKnown(t, c, 2000, []known{
		{1, 1, list(temporal(0, 6, "year"), proper(0, 2, "begin"))},
		{1, 2, list(temporal(0, 5, "year"), proper(2, 4, "sunday-before"))},
		{4, 23, list(temporal(0, 5, "year"), proper(6, 1, "easter-sunday"), proper(7, 8, "sunday-of-april"))},
		{12, 31, list(temporal(0, 5, "year"), proper(3, 5, "end"))},
	})
	expectKnown(t, c, 2023, []known{
		{1, 1, list(temporal(0, 5, "year"), proper(0, 2, "begin"), proper(2, 4, "sunday-before"))},
		{4, 9, list(temporal(0, 5, "year"), proper(6, 1, "easter-sunday"))},
		{12, 31, list(temporal(0, 5, "year"), proper(3, 5, "end"))},
	})
	expectKnown(t, c, 2024, []known{
		{1, 1, list(temporal(0, 6, "year"), proper(0, 2, "begin"))},
		{3, 31, list(temporal(0, 5, "year"), proper(6, 1, "easter-sunday"))},
		{12, 31, list(temporal(0, 6, "year"), proper(3, 5, "end"))},
	})
}

// P19.1 and P19.2: each number of feasts, all on the same day, which is also the
// start of a season.
func TestProperOfManyFeastsOnOneDay(t *testing.T) {
	for _, n := range []int{0, 1, 2, 3, 4, 5, 8, 9, 16, 17, 33, 100, 255, 256, 257, 399, 400} {
		for _, x := range []struct {
			at         api.Anchor
			month, day int
		}{
			{fixed(12, 25), 12, 25}, {paschal(-2), 3, 29}, {nth(11, 22, api.Thursday, 1), 11, 28},
		} {
			c := oneSeason(numbered(n, x.at)...)
			c.Seasons = append(c.Seasons, seasonOf("second", 2, 3, x.at))
			all := propers(c.Feasts, func(int) bool { return true })
			expectKnown(t, c, 2024, []known{
				{1, 1, list(temporal(0, 6, "year"))},
				{x.month, x.day, append(list(temporal(1, 3, "second")), all...)},
				{12, 31, list(temporal(1, 3, "second"))},
			})
		}
	}
}

// P19.1 and P19.2: feasts of the same day that are next to each other or far apart
// in the catalogue.
func TestProperOfFeastsInAllPlaces(t *testing.T) {
	for _, places := range [][]int{{0}, {399}, {0, 399}, {0, 1}, {398, 399}, {199, 200, 201}, {0, 1, 2, 397, 398, 399}, {7, 77, 177, 277, 377}, {255, 256}, {0, 256}} {
		c := oneSeason(numbered(400, fixed(7, 2), paschal(60), nth(10, 1, api.Tuesday, 3))...)
		for _, i := range places {
			c.Feasts[i].At = fixed(8, 15)
		}
		want := propers(c.Feasts, func(index int) bool { return slices.Contains(places, index) })
		expectKnown(t, c, 2024, []known{
			{8, 14, list(temporal(0, 6, "year"))},
			{8, 15, append(list(temporal(0, 6, "year")), want...)},
			{8, 16, list(temporal(0, 6, "year"))},
		})
	}
}

// P19.1 and P19.2: every third feast is on the same day, and the candidates are in
// the order of the catalogue, also if the catalogue is reversed.
func TestProperOfFeastsInTurn(t *testing.T) {
	c := oneSeason(numbered(400, fixed(7, 2), paschal(60), nth(10, 1, api.Tuesday, 3))...)
	for _, d := range []api.Catalogue{c, reversed(c)} {
		var dates []known
		for _, x := range []struct {
			at         api.Anchor
			month, day int
		}{
			{fixed(7, 2), 7, 2}, {paschal(60), 5, 30}, {nth(10, 1, api.Tuesday, 3), 10, 15},
		} {
			want := propers(d.Feasts, func(index int) bool { return d.Feasts[index].At == x.at })
			dates = append(dates, known{x.month, x.day, append(list(temporal(0, 6, "year")), want...)})
		}
		expectKnown(t, d, 2024, dates)
	}
}

// P19.1 and P19.2: each rank, with each policy.
func TestProperRanks(t *testing.T) {
	for rank := 1; rank <= 9; rank++ {
		for _, policy := range []int{api.Transfer, api.Commemorate, api.Omit} {
			f := api.Feast{ID: "any", Rank: rank, Policy: policy, At: fixed(2, 28)}
			expectKnown(t, oneSeason(f), 2024, []known{
				{2, 28, list(temporal(0, 6, "year"), proper(0, rank, "any"))},
				{2, 29, list(temporal(0, 6, "year"))},
			})
		}
	}
}
