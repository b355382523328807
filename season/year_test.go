package season_test

import (
	"slices"
	"testing"

	"computus/api"
	"computus/season"
)

// catalogues lists catalogues with 1 to 20 seasons, in different orders and with
// different and equal starts.
func catalogues() []api.Catalogue {
	var row, mixed, same, ends []api.Anchor
	for i := range 20 {
		row = append(row, paschal(9-i*7%20))
		mixed = append(mixed, []api.Anchor{fixed(1+i*5%12, 1+i), paschal(i*13 - 70), nth(1+i*7%11, 8, i%7, 1+i%4), paschal(0)}[i%4])
		same = append(same, nth(5, 31, api.Monday, -1))
		ends = append(ends, []api.Anchor{fixed(12, 31), fixed(1, 1), paschal(-80), paschal(250), nth(12, 25, i%7, 1), nth(1, 7, i%7, -1)}[i%6])
	}
	l := []api.Catalogue{western(), reversed(western()), seasons(row...), reversed(seasons(row...)), seasons(mixed...), reversed(seasons(mixed...)), seasons(same...), seasons(ends...), reversed(seasons(ends...))}
	for _, a := range []api.Anchor{fixed(1, 1), fixed(12, 31), fixed(6, 24), paschal(-80), paschal(0), paschal(250), nth(11, 27, api.Sunday, 1), nth(2, 25, api.Saturday, -8)} {
		l = append(l, seasons(a), seasons(a, fixed(12, 25)), seasons(fixed(4, 1), a))
	}
	return l
}

// eachKind lists a common year and a leap year that begin on each day of the
// week, years with the earliest and with the latest Easter, and the ends of the
// range.
func eachKind() []int {
	return []int{2018, 2019, 2025, 2026, 2021, 2022, 2000, 2004, 2008, 2012, 2016, 2020, 2096, 2285, 1900, 1583, api.MaxYear, 1818, 1943, 2023, 2024}
}

// someKinds lists a few years of eachKind.
func someKinds() []int {
	return eachKind()[15:]
}

// latest returns the index of the last of the seasons with the latest start of
// those that start up to a day, or -1 if there is none.
func latest(starts []int, day int) int {
	found := -1
	for i, start := range starts {
		if start <= day && (found < 0 || start >= starts[found]) {
			found = i
		}
	}
	return found
}

// byDefinition returns the place of a day of a year with these starts, whose
// first day and last day are given.
func byDefinition(starts []int, first, last, day int) place {
	p := place{season: latest(starts, day)}
	from := first
	if p.season < 0 {
		p.season = latest(starts, last)
	} else {
		from = starts[p.season]
		p.begins = from == day
	}
	for n := from; n <= day; n++ {
		if n%7 == api.Sunday {
			p.week++
		}
	}
	return p
}

// P18.2: every day of years of each kind, by the definition.
func TestPlacesOfAllDays(t *testing.T) {
	for _, year := range eachKind() {
		first, last := dayOf(t, year, 1, 1), dayOf(t, year, 12, 31)
		for _, c := range catalogues() {
			starts, errno := season.Starts(c, year)
			if errno != api.OK || len(starts) != len(c.Seasons) {
				t.Fatalf("Starts of %d = %v, %v", year, starts, errno)
			}
			for day := first; day <= last; day++ {
				expectPlace(t, c, year, day, byDefinition(starts, first, last, day))
			}
		}
	}
}

// P18.2: the first and the last day of many years, and the days next to all starts.
func TestPlacesInManyYears(t *testing.T) {
	for i := range 300 {
		for _, year := range []int{api.FirstGregorian + i, 1880 + i, api.FirstGregorian + i*3_333_331, api.MaxYear - i} {
			first, last := dayOf(t, year, 1, 1), dayOf(t, year, 12, 31)
			for _, c := range []api.Catalogue{western(), seasons(fixed(12, 15), paschal(250), paschal(0), fixed(4, 1))} {
				starts, _ := season.Starts(c, year)
				days := []int{first, last}
				for _, start := range starts {
					days = append(days, max(start-1, first), start, min(start+1, last))
				}
				for _, day := range days {
					expectPlace(t, c, year, day, byDefinition(starts, first, last, day))
				}
			}
		}
	}
}

// permute calls use with each order of the anchors.
func permute(l []api.Anchor, n int, use func([]api.Anchor)) {
	if n == len(l) {
		use(l)
		return
	}
	for i := n; i < len(l); i++ {
		l[n], l[i] = l[i], l[n]
		permute(l, n+1, use)
		l[n], l[i] = l[i], l[n]
	}
}

// P18.2: all orders of five seasons, with different starts and with equal ones.
func TestPlacesInAllOrders(t *testing.T) {
	for _, l := range [][]api.Anchor{
		{fixed(1, 8), paschal(-46), paschal(0), nth(11, 27, api.Sunday, 1), fixed(12, 25)},
		{fixed(6, 24), fixed(6, 24), fixed(3, 1), fixed(12, 25), fixed(12, 25)},
		{fixed(6, 24), fixed(6, 24), fixed(6, 24), paschal(0), fixed(3, 31)},
	} {
		permute(l, 0, func(order []api.Anchor) {
			c := seasons(order...)
			first, last := dayOf(t, 2024, 1, 1), dayOf(t, 2024, 12, 31)
			starts, _ := season.Starts(c, 2024)
			for day := first; day <= last; day += 3 {
				expectPlace(t, c, 2024, day, byDefinition(starts, first, last, day))
			}
			for _, day := range append(slices.Clone(starts), first, last) {
				expectPlace(t, c, 2024, day, byDefinition(starts, first, last, day))
			}
		})
	}
}

// P18.2: a day is the start of its season if it is the start of any season, also
// of one that is not its season because a later one in the catalogue has the
// same start; no other day is, not even 1 January.
func TestBeginsOnAllStarts(t *testing.T) {
	for _, year := range someKinds() {
		for _, c := range catalogues() {
			starts, _ := season.Starts(c, year)
			for day := dayOf(t, year, 1, 1); day <= dayOf(t, year, 12, 31); day++ {
				if got, errno := season.Begins(c, year, day); got != slices.Contains(starts, day) || errno != api.OK {
					t.Errorf("Begins of day %d of %d = %v, %v for starts %v", day, year, got, errno, starts)
				}
			}
		}
	}
}

// P18.3: from one day to the next, the season changes only on starts of seasons;
// the week grows by 1 on Sundays only, until the next season begins.
func TestPlacesFromDayToDay(t *testing.T) {
	for _, year := range someKinds() {
		first, last := dayOf(t, year, 1, 1), dayOf(t, year, 12, 31)
		for _, c := range catalogues() {
			starts, _ := season.Starts(c, year)
			before := place{season: latest(starts, last)}
			for day := first; day <= last; day++ {
				want := place{before.season, before.week, false}
				if slices.Contains(starts, day) {
					want = place{latest(starts, day), 0, true}
				}
				if day%7 == api.Sunday {
					want.week++
				}
				got, errs := ask(c, year, day)
				if got != want || errs != [3]api.Errno{} {
					t.Errorf("day %d of %d: %+v, %v after %+v, want %+v for starts %v", day, year, got, errs, before, want, starts)
				}
				before = got
			}
		}
	}
}
