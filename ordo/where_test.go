package ordo_test

import (
	"testing"

	"computus/api"
	"computus/ordo"
)

// expectWhere tests the result of Where if the feast is found.
func expectWhere(t *testing.T, k api.Calendar, id string, want api.Date) {
	t.Helper()
	if got, ok := ordo.Where(k, id); !ok || got != want {
		t.Errorf("Where(%q) = %v, %v, want %v", id, got, ok, want)
	}
}

// expectNowhere tests the result of Where if the feast is not found.
func expectNowhere(t *testing.T, k api.Calendar, ids ...string) {
	t.Helper()
	for _, id := range ids {
		if got, ok := ordo.Where(k, id); ok || got != (api.Date{}) {
			t.Errorf("Where(%q) = %v, %v", id, got, ok)
		}
	}
}

// P23.2: principal feasts, moved ones, commemorations and omitted feasts of years
// that are known.
func TestWhereOfKnownYears(t *testing.T) {
	for _, x := range []struct {
		id   string
		date api.Date
	}{
		{"mary", date(2024, 1, 1)},
		{"joseph", date(2024, 3, 19)},
		{"joseph", date(2008, 3, 31)},
		{"annunciation", date(2024, 4, 8)},
		{"annunciation", date(2008, 4, 1)},
		{"annunciation", date(2023, 3, 25)},
		{"john-baptist", date(2022, 6, 25)},
		{"sacred-heart", date(2022, 6, 24)},
		{"mark", date(2021, 4, 25)},
		{"mark", date(2024, 4, 25)},
		{"transfiguration", date(2023, 8, 6)},
		{"anastasia", date(2024, 12, 25)},
		{"nativity", date(2024, 12, 25)},
		{"sylvester", date(2024, 12, 31)},
		{"holy-family", date(2022, 12, 25)},
		{"holy-family", date(2024, 12, 29)},
	} {
		expectWhere(t, build(t, roman(), x.date.Year), x.id, x.date)
	}
}

// P23.2: seasons and unknown IDs are not found, also if they are a part of an ID.
func TestNowhere(t *testing.T) {
	for _, year := range []int{2008, 2023, 2024} {
		k := build(t, roman(), year)
		for _, s := range roman().Seasons {
			expectNowhere(t, k, s.ID)
		}
		expectNowhere(t, k, "", "mar", "mary-", "Mary", "mary ", " ", "\x00", "octave", "nativity\n", "josephs", "\xff", "2024-04-08")
	}
}

// P23.2: each feast is where the place of it is.
func TestWhereOfEachFeast(t *testing.T) {
	eachCalendar(t, func(c api.Catalogue, k api.Calendar) {
		feasts := places(c, k)
		for _, f := range c.Feasts {
			expectWhere(t, k, f.ID, feasts[f.ID][0].Date)
		}
		for _, s := range c.Seasons {
			expectNowhere(t, k, s.ID)
		}
	})
}

// P23.2: of several entries with the ID, the first one counts, in whichever of the
// places it is; a Temporal celebration does not count, and every other Kind does.
func TestWhereIsTheFirstOne(t *testing.T) {
	k := strange()
	expectWhere(t, k, "a", date(2023, 3, 1))
	expectWhere(t, k, "b", date(2024, 3, 1))
	expectWhere(t, k, "c", date(2024, 3, 1))
	expectWhere(t, k, "d", date(2024, 3, 1))
	expectWhere(t, k, "e", date(2023, 3, 1))
	expectWhere(t, k, "f", date(0, 0, 0))
	expectWhere(t, k, "g", date(2022, -3, -1))
	expectWhere(t, k, "h", date(2022, -3, -1))
	expectWhere(t, k, "", date(2022, -3, -1))
	expectWhere(t, k, "i", date(2024, 2, 30))
	expectWhere(t, k, "s", date(2026, 3, 1))
	expectNowhere(t, k, "j", "ab", "A")
	k.Entries[7].Kind = api.Temporal
	expectWhere(t, k, "s", date(2026, 3, 1))
	k.Entries[7].Commem = nil
	expectNowhere(t, k, "s")
	k.Entries[7].Omitted = ids("x", "s")
	expectWhere(t, k, "s", date(2026, 3, 1))
	k.Entries = k.Entries[1:]
	expectWhere(t, k, "b", date(1, 2, 30))
	expectNowhere(t, k, "c", "d")
}

// P23.2: an entry with the zero date is found, although the date is the zero one.
func TestWhereOfTheZeroDate(t *testing.T) {
	for _, e := range []api.Entry{{Kind: api.Proper, Principal: "a"}, {Kind: api.Moved, Principal: "a"}, {Kind: api.Temporal, Commem: ids("a")}, {Kind: api.Temporal, Omitted: ids("a")}, {Principal: "a"}} {
		expectWhere(t, api.Calendar{Entries: []api.Entry{e}}, "a", api.Date{})
	}
	expectNowhere(t, api.Calendar{Entries: []api.Entry{{Kind: api.Temporal, Principal: "a", Season: "a"}}}, "a")
}

// P23.2: calendars without entries.
func TestWhereInAnEmptyCalendar(t *testing.T) {
	entries := []api.Entry{{Date: date(2024, 1, 1), Kind: api.Proper, Principal: "a"}}
	for _, k := range []api.Calendar{{}, {Year: 2024}, {Year: 2024, Entries: []api.Entry{}}, {Year: 2024, Entries: entries[:0]}} {
		expectNowhere(t, k, "", "a", "year")
	}
}
