package ordo_test

import (
	"slices"
	"strconv"
	"testing"

	"computus/api"
	"computus/candidate"
	"computus/gregorian"
	"computus/occurrence"
	"computus/season"
	"computus/transfer"
	"computus/weekday"
)

// byDefinition returns the calendar of a year, and OK, or the error, by the
// definition: from the functions of the lower layers for each single day.
func byDefinition(c api.Catalogue, year int) (api.Calendar, api.Errno) {
	starts, errno := season.Starts(c, year)
	if errno != api.OK || len(starts) == 0 {
		return api.Calendar{}, errno
	}
	first, _ := gregorian.ToDay(date(year, 1, 1))
	last, _ := gregorian.ToDay(date(year, 12, 31))
	var results []occurrence.Result
	var free []bool
	var impeded [][]int
	for n := first; n <= last; n++ {
		l, _ := candidate.Of(c, year, n)
		r := occurrence.Resolve(c, l)
		results, free, impeded = append(results, r), append(free, occurrence.Free(c, r)), append(impeded, r.Impeded)
	}
	moves, errno := transfer.Assign(free, impeded)
	if errno != api.OK {
		return api.Calendar{}, errno
	}
	k := api.Calendar{Year: year}
	for i, r := range results {
		k.Entries = append(k.Entries, entryByDefinition(c, year, first, i, r, moves))
	}
	return k, api.OK
}

// entryByDefinition returns the entry of the day with an index.
func entryByDefinition(c api.Catalogue, year, first, i int, r occurrence.Result, moves []transfer.Move) api.Entry {
	var e api.Entry
	e.Date, _ = gregorian.FromDay(first + i)
	e.Weekday = weekday.Of(first + i)
	index, _ := season.Of(c, year, first+i)
	e.Season = c.Seasons[index].ID
	e.Week, _ = season.Week(c, year, first+i)
	e.Kind, e.Principal, e.Rank = r.Principal.Kind, r.Principal.ID, r.Principal.Rank
	for _, m := range moves {
		if m.To == i {
			e.Kind, e.Principal, e.Rank = api.Moved, c.Feasts[m.Feast].ID, c.Feasts[m.Feast].Rank
			e.From, _ = gregorian.FromDay(first + m.From)
			r = occurrence.Displace(c, r)
		}
	}
	for _, f := range r.Commem {
		e.Commem = append(e.Commem, c.Feasts[f].ID)
	}
	for _, f := range r.Omitted {
		e.Omitted = append(e.Omitted, c.Feasts[f].ID)
	}
	return e
}

// numbers returns a function that returns numbers from 0 to below n, which are
// always the same for a seed.
func numbers(seed int) func(n int) int {
	state := uint64(seed)*2 + 1
	return func(n int) int {
		state = state*6364136223846793005 + 1442695040888963407
		return int(state>>33) % n
	}
}

// anyAnchor returns a well-formed anchor.
func anyAnchor(next func(int) int) api.Anchor {
	switch next(3) {
	case 0:
		return fixed(1+next(12), 1+next(28))
	case 1:
		return paschal(next(331) - 80)
	}
	if next(2) == 0 {
		return nth(1+next(10), 1+next(28), next(7), 1+next(8))
	}
	return nth(4+next(9), 1+next(28), next(7), -1-next(8))
}

// anyCatalogue returns a well-formed catalogue with as many seasons and feasts. Its
// feasts fall on few days if they are crowded.
func anyCatalogue(seed, seasons, feasts int, crowded bool) api.Catalogue {
	next := numbers(seed)
	c := api.Catalogue{Free: next(8)}
	for i := range seasons {
		c.Seasons = append(c.Seasons, seasonOf("s-"+strconv.Itoa(i), 1+next(9), 1+next(9), anyAnchor(next)))
	}
	var days []api.Anchor
	for range 12 {
		days = append(days, anyAnchor(next))
	}
	for i := range feasts {
		at := anyAnchor(next)
		if crowded {
			at = days[next(len(days))]
		}
		c.Feasts = append(c.Feasts, feastOf("f-"+strconv.Itoa(i), 1+next(9), 1+next(3), at))
	}
	return c
}

// someCatalogues lists catalogues with one season and with several, with no feasts
// and with many, and with feasts that are not on their own days.
func someCatalogues() []api.Catalogue {
	l := []api.Catalogue{roman(), oneSeason(0, 1), oneSeason(5, 9, impedance("b", fixed(2, 28))...)}
	for seed, n := range []int{0, 1, 2, 5, 10, 20, 40, 80, 160, 400} {
		l = append(l, anyCatalogue(seed, 1, n, false), anyCatalogue(seed+100, 20, n, false), anyCatalogue(seed+200, 5, n, true), anyCatalogue(seed+300, 9, n/2, true))
	}
	reversed := roman()
	slices.Reverse(reversed.Seasons)
	slices.Reverse(reversed.Feasts)
	return append(l, reversed)
}

// eachKind lists common years and leap years that begin on each day of the week,
// years with the earliest and the latest Easter, and the ends of the range.
func eachKind() []int {
	return []int{2018, 2019, 2025, 2026, 2021, 2022, 2023, 2000, 2004, 2008, 2012, 2016, 2020, 2024, 1818, 1943, 2285, 1583, 1584, 1900, api.MaxYear - 1, api.MaxYear}
}

// someKinds lists a few years of eachKind, which are not the same for each i.
func someKinds(i int) []int {
	l := eachKind()
	return []int{l[i%len(l)], l[(i+5)%len(l)], l[(i+11)%len(l)]}
}

// P23.1: each entry of years of each kind, in many catalogues, or the error.
func TestByDefinition(t *testing.T) {
	calendars, errors := 0, 0
	for i, c := range someCatalogues() {
		for _, year := range someKinds(i) {
			want, errno := byDefinition(c, year)
			if errno != api.OK {
				errors++
				expectError(t, c, year, errno)
				continue
			}
			calendars++
			expectCalendar(t, c, year, want)
		}
	}
	if calendars < 60 || errors < 10 {
		t.Errorf("there are only %d calendars and %d errors", calendars, errors)
	}
}

// P23.1: many small catalogues, in which feasts are often moved and displaced.
func TestSmallCataloguesByDefinition(t *testing.T) {
	moved, displaced := 0, 0
	for seed := range 150 {
		c := anyCatalogue(1000+seed, 1+seed%3, seed%30, seed%2 == 0)
		want, errno := byDefinition(c, 2000+seed%50)
		if errno != api.OK {
			expectError(t, c, 2000+seed%50, errno)
			continue
		}
		expectCalendar(t, c, 2000+seed%50, want)
		for _, e := range want.Entries {
			if e.Kind == api.Moved {
				moved++
				displaced += min(1, len(e.Commem)+len(e.Omitted))
			}
		}
	}
	if moved < 100 || displaced < 10 {
		t.Errorf("only %d feasts are moved, and %d days have feasts beside them", moved, displaced)
	}
}
