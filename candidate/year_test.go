package candidate_test

import (
	"slices"
	"testing"

	"computus/anchor"
	"computus/api"
	"computus/candidate"
	"computus/season"
)

// manyAnchors lists anchors of each kind, some of which are on the same day in
// each year, in some years only, and at the ends of the year.
func manyAnchors() []api.Anchor {
	l := []api.Anchor{fixed(1, 1), fixed(12, 31), fixed(2, 28), fixed(3, 1), paschal(0), paschal(0), paschal(-80), paschal(250), fixed(12, 25), nth(12, 31, api.Sunday, -1), nth(1, 7, api.Monday, -1)}
	for i := range 60 {
		l = append(l, fixed(1+i*5%12, 1+i*11%28), paschal(i*13%331-80), nth(1+i*7%11, 8, i%7, 1+i%4), nth(2+i*7%11, 7, i%7, -1-i%4))
	}
	return l
}

// someCatalogues lists catalogues with few and many seasons and feasts, in
// different orders, and with different and equal days.
func someCatalogues() []api.Catalogue {
	l := []api.Catalogue{roman(), reversed(roman()), oneSeason(), oneSeason(feastOf("nativity", 1, fixed(12, 25)))}
	many, same := oneSeason(numbered(400, manyAnchors()...)...), oneSeason(numbered(30, paschal(0), fixed(4, 1))...)
	many.Seasons, same.Seasons = nil, nil
	for i, id := range []string{"a", "b", "c", "d", "e", "f", "g", "h", "i", "j", "k", "l", "m", "n", "o", "p", "q", "r", "s", "t"} {
		many.Seasons = append(many.Seasons, seasonOf(id, 1+i%9, 9-i*2%9, manyAnchors()[i*7+1]))
		same.Seasons = append(same.Seasons, seasonOf(id, 1+i%9, 9-i*2%9, []api.Anchor{paschal(0), fixed(4, 1), fixed(12, 31)}[i%3]))
	}
	return append(l, many, reversed(many), same, reversed(same))
}

// eachKind lists common years and leap years that begin on each day of the week,
// years with the earliest and the latest Easter, and the ends of the range.
func eachKind() []int {
	return []int{2018, 2019, 2025, 2026, 2021, 2022, 2023, 2000, 2004, 2008, 2012, 2016, 2020, 2024, 1818, 1943, 2096, 2285, 1583, 1584, 1900, api.MaxYear - 1, api.MaxYear}
}

// someKinds lists a few years of eachKind.
func someKinds() []int {
	return []int{2023, 2024, 1943, 1583, api.MaxYear}
}

// byDefinition returns the candidates of the days of a year, whose first and last
// days are given.
func byDefinition(t *testing.T, c api.Catalogue, year, first, last int) [][]candidate.Candidate {
	t.Helper()
	var feastDays []int
	for _, f := range c.Feasts {
		day, errno := anchor.Day(f.At, year)
		if errno != api.OK {
			t.Fatalf("no day of %+v in %d", f, year)
		}
		feastDays = append(feastDays, day)
	}
	var l [][]candidate.Candidate
	for day := first; day <= last; day++ {
		index, errno := season.Of(c, year, day)
		if errno != api.OK {
			t.Fatalf("no season of day %d of %d", day, year)
		}
		s := c.Seasons[index]
		of := list(temporal(index, s.Weekday, s.ID))
		if day%7 == api.Sunday {
			of = list(temporal(index, s.Sunday, s.ID))
		}
		of = append(of, propers(c.Feasts, func(i int) bool { return feastDays[i] == day })...)
		l = append(l, of)
	}
	return l
}

// P19.2: every day of years of each kind, by the definition.
func TestYearByDefinition(t *testing.T) {
	for _, year := range eachKind() {
		first, last := dayOf(t, year, 1, 1), dayOf(t, year, 12, 31)
		for i, c := range someCatalogues() {
			want := byDefinition(t, c, year, first, last)
			if got := yearOf(t, c, year); !slices.EqualFunc(got, want, slices.Equal) {
				t.Errorf("catalogue %d: Year(%d) = %v, want %v", i, year, got, want)
			}
		}
	}
}

// P19.1: every day of some years, by the definition.
func TestOfByDefinition(t *testing.T) {
	for _, year := range someKinds() {
		first, last := dayOf(t, year, 1, 1), dayOf(t, year, 12, 31)
		for _, c := range someCatalogues() {
			for i, want := range byDefinition(t, c, year, first, last) {
				expectOf(t, c, year, first+i, want)
			}
		}
	}
}

// P19.2: 365 or 366 lists, each of which is the same as that of Of.
func TestYearIsOfOfEachDay(t *testing.T) {
	for _, x := range []struct{ year, first, days int }{
		{1583, 577_814, 365},
		{1600, 584_023, 366},
		{1900, 693_596, 365},
		{2000, 730_120, 366},
		{2023, 738_521, 365},
		{2024, 738_886, 366},
		{2100, 766_645, 365},
		{api.MaxYear - 1, 365_242_499_270, 365},
		{api.MaxYear, 365_242_499_635, 366},
	} {
		for _, c := range []api.Catalogue{roman(), oneSeason(), oneSeason(numbered(40, manyAnchors()...)...)} {
			l := yearOf(t, c, x.year)
			if len(l) != x.days {
				t.Errorf("Year(%d) has %d lists, want %d", x.year, len(l), x.days)
			}
			for i, want := range l {
				expectOf(t, c, x.year, x.first+i, want)
			}
		}
	}
}

// P19.3: every day has exactly one temporal candidate, which is the first one, and
// every feast is a candidate of exactly one day, after those before it in the
// catalogue.
func TestEachFeastIsOnOneDay(t *testing.T) {
	for _, year := range eachKind() {
		for _, c := range someCatalogues() {
			count := make([]int, len(c.Feasts))
			for i, l := range yearOf(t, c, year) {
				if len(l) == 0 || l[0].Kind != api.Temporal {
					t.Fatalf("day %d of %d does not begin with a temporal candidate: %v", i, year, l)
				}
				before := -1
				for _, x := range l[1:] {
					if x.Kind != api.Proper || x.Index <= before || x.Index >= len(count) {
						t.Fatalf("day %d of %d: unexpected %v in %v", i, year, x, l)
					}
					before = x.Index
					count[x.Index]++
				}
			}
			for i, n := range count {
				if n != 1 {
					t.Errorf("feast %d is on %d days of %d", i, n, year)
				}
			}
		}
	}
}

// P19.3: from one day to the next, the season changes only on starts of seasons,
// and the rank within a season on Sundays and after them only.
func TestTemporalFromDayToDay(t *testing.T) {
	for _, year := range eachKind() {
		first := dayOf(t, year, 1, 1)
		for _, c := range someCatalogues() {
			starts, _ := season.Starts(c, year)
			l := yearOf(t, c, year)
			for i := 1; i < len(l); i++ {
				before, now := l[i-1][0], l[i][0]
				if now.Index != before.Index && !slices.Contains(starts, first+i) {
					t.Errorf("day %d of %d: %v after %v, but no start", i, year, now, before)
				}
				if now.Index == before.Index && now != before && (first+i)%7 != api.Sunday && (first+i)%7 != api.Monday {
					t.Errorf("day %d of %d: %v after %v", i, year, now, before)
				}
			}
		}
	}
}

// P19.1 and P19.2: the first and the last day, Easter and the days of feasts in
// many years.
func TestManyYears(t *testing.T) {
	c := roman()
	c.Feasts = append(c.Feasts, feastOf("early", 9, paschal(-80)), feastOf("late", 9, paschal(250)))
	for i := range 100 {
		for _, year := range []int{api.FirstGregorian + i, 1950 + i, api.FirstGregorian + i*9_999_991, api.MaxYear - i} {
			first, last := dayOf(t, year, 1, 1), dayOf(t, year, 12, 31)
			got, want := yearOf(t, c, year), byDefinition(t, c, year, first, last)
			if !slices.EqualFunc(got, want, slices.Equal) {
				t.Errorf("Year(%d) = %v, want %v", year, got, want)
			}
			for j, l := range want {
				if len(l) > 1 || j == 0 || j == last-first {
					expectOf(t, c, year, first+j, l)
				}
			}
		}
	}
}
