package occurrence_test

import (
	"slices"
	"strconv"
	"testing"

	"computus/api"
	"computus/candidate"
	"computus/occurrence"
)

// crowded returns a catalogue with as many feasts as there may be, on few days, of
// few ranks and of all policies, and with seasons of the same ranks.
func crowded() api.Catalogue {
	c := api.Catalogue{Free: 2, Seasons: []api.Season{seasonOf("winter", 2, 3, fixed(1, 1)), seasonOf("spring", 1, 2, paschal(-30)), seasonOf("summer", 3, 4, fixed(6, 1))}}
	for i := range 400 {
		at := fixed(1+i*5%12, 1+i*7%9)
		if i%4 == 1 {
			at = paschal(i*13%331/9*9 - 80)
		}
		if i%4 == 2 {
			at = nth(1+i*7%11, 8, i%7, 1+i%4)
		}
		c.Feasts = append(c.Feasts, feastOf("feast-"+strconv.Itoa(i), 1+i*3%5, 1+i/3%3, at))
	}
	return c
}

// reversed returns a catalogue with the seasons and the feasts of c in the reverse
// order.
func reversed(c api.Catalogue) api.Catalogue {
	c.Seasons, c.Feasts = slices.Clone(c.Seasons), slices.Clone(c.Feasts)
	slices.Reverse(c.Seasons)
	slices.Reverse(c.Feasts)
	return c
}

// noFeasts returns the seasons of a catalogue only, and no day of it is free.
func noFeasts(c api.Catalogue) api.Catalogue {
	c.Feasts, c.Free = nil, 9
	return c
}

// eachKind lists common years and leap years that begin on each day of the week,
// years with the earliest and the latest Easter, and the ends of the range.
func eachKind() []int {
	return []int{2018, 2019, 2025, 2026, 2021, 2022, 2023, 2000, 2004, 2008, 2012, 2016, 2020, 2024, 1818, 1943, 2096, 2285, 1583, 1584, 1900, api.MaxYear - 1, api.MaxYear}
}

// eachDay calls visit with the candidates of each day of years of each kind, in
// several catalogues.
func eachDay(t *testing.T, visit func(c api.Catalogue, l []candidate.Candidate)) {
	t.Helper()
	for _, c := range []api.Catalogue{roman(), reversed(roman()), crowded(), reversed(crowded()), noFeasts(roman()), manyOnOneDay(40, 3, 5)} {
		for _, year := range eachKind() {
			days, errno := candidate.Year(c, year)
			if errno != api.OK {
				t.Fatalf("Year(%d): error %v", year, errno)
			}
			for _, l := range days {
				visit(c, l)
			}
		}
	}
}

// P21.1: each day, by the definition, with its candidates in several orders.
func TestYearByDefinition(t *testing.T) {
	eachDay(t, func(c api.Catalogue, l []candidate.Candidate) {
		want := byDefinition(c, l)
		expectResolve(t, c, l, want)
		expectResolve(t, c, shuffled(l, len(l)), want)
		slices.Reverse(l)
		expectResolve(t, c, l, want)
	})
}

// P21.3: each day, every proper candidate is in one place, and no candidate
// precedes the principal celebration.
func TestYearInOnePlace(t *testing.T) {
	eachDay(t, func(c api.Catalogue, l []candidate.Candidate) {
		expectOnePlace(t, c, l)
	})
}

// P21.1: each day is free if no candidate of it has a rank up to the Free of the
// catalogue.
func TestYearFree(t *testing.T) {
	eachDay(t, func(c api.Catalogue, l []candidate.Candidate) {
		want := true
		for _, x := range l {
			want = want && x.Rank > c.Free
		}
		expectFree(t, c, occurrence.Resolve(c, l), want)
	})
}

// P21.2: each day is displaced, by the definition.
func TestYearDisplaced(t *testing.T) {
	eachDay(t, func(c api.Catalogue, l []candidate.Candidate) {
		r := occurrence.Resolve(c, l)
		expectDisplace(t, c, r, displaced(c, r))
	})
}
