package ordo_test

import (
	"math"
	"testing"

	"computus/api"
	"computus/ordo"
)

// expectEntry tests the result of Entry if there is an entry.
func expectEntry(t *testing.T, k api.Calendar, month, day int, want api.Entry) {
	t.Helper()
	got, ok := ordo.Entry(k, month, day)
	if !ok || !sameEntry(got, want) {
		t.Errorf("Entry(%d, %d) = %+v, %v, want %+v", month, day, got, ok, want)
	}
}

// expectNoEntry tests the result of Entry if there is no entry.
func expectNoEntry(t *testing.T, k api.Calendar, month, day int) {
	t.Helper()
	got, ok := ordo.Entry(k, month, day)
	if ok || !sameEntry(got, api.Entry{}) || got.Commem != nil || got.Omitted != nil {
		t.Errorf("Entry(%d, %d) = %+v, %v", month, day, got, ok)
	}
}

// P23.2: the entry of each date of common and leap years.
func TestEntryOfEachDate(t *testing.T) {
	for _, c := range someCatalogues()[:12] {
		for _, year := range []int{api.FirstGregorian, 2023, 2024, api.MaxYear} {
			k, errno := ordo.Build(c, year)
			if errno != api.OK {
				continue
			}
			i := 0
			for m, n := range lengths(year) {
				for d := 1; d <= n; d++ {
					expectEntry(t, k, m+1, d, k.Entries[i])
					i++
				}
			}
		}
	}
}

// P23.2: months and days that do not occur.
func TestEntryOfNoDate(t *testing.T) {
	numbers := []int{0, -1, -3, -31, 13, 32, 100, 2024, math.MinInt, math.MaxInt, math.MaxInt32 + 4}
	for _, year := range []int{2023, 2024} {
		k := build(t, roman(), year)
		for _, n := range numbers {
			for _, ok := range []int{1, 2, 12} {
				expectNoEntry(t, k, n, ok)
			}
			for month := 1; month <= 12; month++ {
				if n != 13 {
					expectNoEntry(t, k, month, n)
				}
			}
			for _, m := range numbers {
				expectNoEntry(t, k, n, m)
			}
		}
		for m, n := range lengths(year) {
			expectNoEntry(t, k, m+1, n+1)
			expectNoEntry(t, k, m+1, 0)
		}
	}
	expectNoEntry(t, build(t, roman(), 2023), 2, 29)
	expectEntry(t, build(t, roman(), 2024), 2, 29, api.Entry{Date: date(2024, 2, 29), Weekday: 4, Season: "lent", Week: 2, Kind: 1, Principal: "lent", Rank: 8})
}

// P23.2: calendars without entries.
func TestEntryOfAnEmptyCalendar(t *testing.T) {
	for _, k := range []api.Calendar{{}, {Year: 2024}, {Year: 2024, Entries: []api.Entry{}}, {Year: 2024, Entries: []api.Entry{{Date: date(2024, 1, 1)}}[:0]}} {
		for _, n := range []int{0, 1, 5, -1} {
			expectNoEntry(t, k, n, n)
		}
		expectNoEntry(t, k, 1, 1)
	}
}

// strange returns a calendar that no catalogue has: with several entries of the
// same month and day, of dates that do not exist and of other years, and with
// several entries that have the same ID.
func strange() api.Calendar {
	return api.Calendar{Year: -5, Entries: []api.Entry{
		{Date: date(2024, 3, 1), Kind: api.Temporal, Principal: "a", Commem: ids("b"), Omitted: ids("c", "d")},
		{Date: date(1, 2, 30), Kind: api.Proper, Principal: "b", Rank: 7},
		{Date: date(2023, 3, 1), Kind: api.Moved, Principal: "a", From: date(2023, 2, 1), Commem: ids("e", "a")},
		{Date: date(0, 0, 0), Season: "s", Week: -1, Kind: 0, Principal: "f"},
		{Date: date(2022, -3, -1), Kind: 9, Principal: "g", Omitted: ids("", "h")},
		{Date: date(2024, 2, 30), Kind: api.Proper, Principal: "e", Commem: ids("g", "i", "i"), Omitted: ids("i")},
		{Date: date(2025, math.MaxInt, math.MinInt), Kind: api.Temporal, Principal: "s", Season: "s"},
		{Date: date(2026, 3, 1), Kind: api.Proper, Principal: "s", Commem: ids("s")},
	}}
}

// P23.2: of several entries of the same month and day, the first one counts,
// whatever its year is; and months and days are compared only.
func TestEntryIsTheFirstOne(t *testing.T) {
	k := strange()
	expectEntry(t, k, 3, 1, k.Entries[0])
	expectEntry(t, k, 2, 30, k.Entries[1])
	expectEntry(t, k, 0, 0, k.Entries[3])
	expectEntry(t, k, -3, -1, k.Entries[4])
	expectEntry(t, k, math.MaxInt, math.MinInt, k.Entries[6])
	for _, x := range [][2]int{{1, 3}, {3, 2}, {2, 1}, {3, -1}, {-3, 1}, {0, 1}, {1, 0}, {math.MinInt, math.MaxInt}} {
		expectNoEntry(t, k, x[0], x[1])
	}
	k.Entries = k.Entries[1:]
	expectEntry(t, k, 3, 1, k.Entries[1])
	k.Entries = k.Entries[2:]
	expectEntry(t, k, 3, 1, k.Entries[4])
	expectEntry(t, k, 2, 30, k.Entries[2])
}

// P23.2: of two years in one calendar, the entries of the first one count.
func TestEntryOfTwoYears(t *testing.T) {
	a, b := build(t, roman(), 2023), build(t, roman(), 2024)
	k := api.Calendar{Year: 2023, Entries: append(copyOf(a).Entries, b.Entries...)}
	for _, e := range a.Entries {
		expectEntry(t, k, e.Date.Month, e.Date.Day, e)
	}
	leapDay, _ := ordo.Entry(b, 2, 29)
	expectEntry(t, k, 2, 29, leapDay)
}
