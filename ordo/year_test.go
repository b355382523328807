package ordo_test

import (
	"testing"

	"computus/anchor"
	"computus/api"
	"computus/candidate"
	"computus/ordo"
	"computus/precedence"
)

// eachCalendar calls visit with the calendars of years of each kind.
func eachCalendar(t *testing.T, visit func(c api.Catalogue, k api.Calendar)) {
	t.Helper()
	n := 0
	for i, c := range someCatalogues() {
		for _, year := range append(someKinds(i), someKinds(i+3)...) {
			k, errno := ordo.Build(c, year)
			if errno == api.ErrNoFreeDay {
				continue
			}
			if errno != api.OK || k.Year != year {
				t.Fatalf("Build(%d) = a calendar of %d, error %v", year, k.Year, errno)
			}
			n++
			visit(c, k)
		}
	}
	if n < 120 {
		t.Errorf("there are only %d calendars", n)
	}
}

// lengths returns the lengths of the months of a year.
func lengths(year int) []int {
	l := []int{31, 28, 31, 30, 31, 30, 31, 31, 30, 31, 30, 31}
	if year%4 == 0 && (year%100 != 0 || year%400 == 0) {
		l[1] = 29
	}
	return l
}

// weekdayOf returns the day of the week of 1 January, by the congruence of Gauss.
func weekdayOf(year int) int {
	y := year - 1
	return (1 + 5*(y%4) + 4*(y%100) + 6*(y%400)) % 7
}

// P23.3: one entry for each date of the year in order, with its day of the week.
func TestOneEntryForEachDate(t *testing.T) {
	eachCalendar(t, func(c api.Catalogue, k api.Calendar) {
		i := 0
		for m, n := range lengths(k.Year) {
			for d := 1; d <= n; d++ {
				e := k.Entries[i]
				if e.Date != date(k.Year, m+1, d) || e.Weekday != (weekdayOf(k.Year)+i)%7 {
					t.Fatalf("entry %d of %d = %+v", i, k.Year, e)
				}
				i++
			}
		}
		if i != len(k.Entries) {
			t.Errorf("%d has %d entries, want %d", k.Year, len(k.Entries), i)
		}
	})
}

// places returns, for each feast, the entries in which it is, once for each time.
func places(c api.Catalogue, k api.Calendar) map[string][]api.Entry {
	feasts := map[string][]api.Entry{}
	for _, e := range k.Entries {
		var l []string
		if e.Kind != api.Temporal {
			l = append(l, e.Principal)
		}
		l = append(append(l, e.Commem...), e.Omitted...)
		for _, id := range l {
			feasts[id] = append(feasts[id], e)
		}
	}
	return feasts
}

// P23.3: every feast is in exactly one place: on its own day, or on a later one to
// which it is moved, where its original date is that of its anchor.
func TestEveryFeastInOnePlace(t *testing.T) {
	eachCalendar(t, func(c api.Catalogue, k api.Calendar) {
		feasts := places(c, k)
		if len(feasts) != len(c.Feasts) {
			t.Errorf("there are %d feasts in %d, want %d", len(feasts), k.Year, len(c.Feasts))
		}
		for _, f := range c.Feasts {
			own, _ := anchor.Date(f.At, k.Year)
			if len(feasts[f.ID]) != 1 {
				t.Fatalf("%s is %d times in %d", f.ID, len(feasts[f.ID]), k.Year)
			}
			e := feasts[f.ID][0]
			switch {
			case e.Principal != f.ID || e.Kind == api.Proper:
				if e.Date != own {
					t.Errorf("%s is on %v instead of %v", f.ID, e.Date, own)
				}
			case f.Policy != api.Transfer || e.From != own || !later(e.Date, own):
				t.Errorf("%+v is on %+v", f, e)
			}
			if e.Principal == f.ID && e.Rank != f.Rank {
				t.Errorf("%+v has another rank: %+v", f, e)
			}
		}
	})
}

// later reports whether a is later than b in the same year.
func later(a, b api.Date) bool {
	return a.Month > b.Month || a.Month == b.Month && a.Day > b.Day
}

// P23.3: no candidate of a day precedes its principal celebration, unless a feast
// was moved there. From is the zero date unless a feast was moved.
func TestNoCandidatePrecedesThePrincipal(t *testing.T) {
	eachCalendar(t, func(c api.Catalogue, k api.Calendar) {
		days, _ := candidate.Year(c, k.Year)
		for i, e := range k.Entries {
			if e.Kind == api.Moved {
				continue
			}
			first, _ := precedence.First(days[i])
			if e.Kind != first.Kind || e.Principal != first.ID || e.Rank != first.Rank || e.From != (api.Date{}) {
				t.Fatalf("entry %+v, but %+v precedes", e, first)
			}
		}
	})
}

// P23.3 and P23.1: feasts are moved to the earliest later day that is free, and that
// no feast has taken which was moved before.
func TestMovedToTheEarliestDay(t *testing.T) {
	eachCalendar(t, func(c api.Catalogue, k api.Calendar) {
		days, _ := candidate.Year(c, k.Year)
		for i, e := range k.Entries {
			first, _ := precedence.First(days[i])
			if first.Rank <= c.Free && e.Kind == api.Moved {
				t.Fatalf("a feast is moved to a day that is not free: %+v", e)
			}
			if first.Rank <= c.Free || e.Kind == api.Moved {
				continue
			}
			for _, x := range k.Entries[i+1:] {
				if x.Kind == api.Moved && later(e.Date, x.From) {
					t.Fatalf("a feast is moved beyond a free day: %+v", x)
				}
			}
		}
	})
}
