package query_test

import (
	"slices"
	"strings"
	"testing"

	"computus/api"
	"computus/builtin"
	"computus/ordo"
	"computus/query"
)

// feastDates are the dates of the feasts of the built-in catalogue, in its order, in
// the first and the last year of the range and in years in which feasts are moved (two
// of them in 2008, one in 2022, one in 2024) or commemorated (in 2025 and 2026).
var feastDates = map[int]string{
	1583:          "1 1,1 6,1 9,1 25,2 2,2 22,3 19,3 25,5 19,5 29,6 5,6 9,6 17,6 24,6 29,8 6,8 15,9 14,11 1,11 2,11 20,11 30,12 8,12 25,12 26",
	2008:          "1 1,1 6,1 13,1 25,2 2,2 22,3 31,4 1,5 1,5 11,5 18,5 22,5 30,6 24,6 29,8 6,8 15,9 14,11 1,11 2,11 23,11 30,12 8,12 25,12 26",
	2022:          "1 1,1 6,1 9,1 25,2 2,2 22,3 19,3 25,5 26,6 5,6 12,6 16,6 24,6 25,6 29,8 6,8 15,9 14,11 1,11 2,11 20,11 30,12 8,12 25,12 26",
	2024:          "1 1,1 6,1 7,1 25,2 2,2 22,3 19,4 8,5 9,5 19,5 26,5 30,6 7,6 24,6 29,8 6,8 15,9 14,11 1,11 2,11 24,11 30,12 8,12 25,12 26",
	2025:          "1 1,1 6,1 12,1 25,2 2,2 22,3 19,3 25,5 29,6 8,6 15,6 19,6 27,6 24,6 29,8 6,8 15,9 14,11 1,11 2,11 23,11 30,12 8,12 25,12 26",
	2026:          "1 1,1 6,1 11,1 25,2 2,2 22,3 19,3 25,5 14,5 24,5 31,6 4,6 12,6 24,6 29,8 6,8 15,9 14,11 1,11 2,11 22,11 30,12 8,12 25,12 26",
	1_000_000_000: "1 1,1 6,1 9,1 25,2 2,2 22,3 19,3 25,5 11,5 21,5 28,6 1,6 9,6 24,6 29,8 6,8 15,9 14,11 1,11 2,11 26,11 30,12 8,12 25,12 26",
}

// feastNames returns the identifiers of the feasts of the built-in catalogue.
func feastNames() []string {
	return builtin.Names()[8:]
}

// P28.2: each feast of the built-in catalogue.
func TestWhere(t *testing.T) {
	for year, dates := range feastDates {
		for i, monthDay := range strings.Split(dates, ",") {
			want := strings.Fields(query.DateText(date(year, 0, 0)))[0] + " " + monthDay
			expect(t, whereQuery(year, feastNames()[i]), answered(want))
		}
	}
}

// P28.2: feasts that are moved are where they are moved to, and feasts that are
// commemorated on their own day.
func TestWhereOfMovedAndCommemoratedFeasts(t *testing.T) {
	for _, c := range []struct {
		year  int
		feast string
		want  string
	}{
		{2024, "annunciation", "2024 4 8"}, {2016, "annunciation", "2016 4 4"}, {2008, "joseph", "2008 3 31"}, {2008, "annunciation", "2008 4 1"}, {2022, "john-baptist", "2022 6 25"}, {1601, "peter-and-paul", "1601 6 30"},
		{2025, "andrew", "2025 11 30"}, {2027, "stephen", "2027 12 26"}, {2026, "chair-of-peter", "2026 2 22"},
	} {
		expect(t, whereQuery(c.year, c.feast), answered(c.want))
	}
	for year, feast := range map[int]string{2025: "andrew", 2027: "stephen", 2026: "chair-of-peter"} {
		if !slices.ContainsFunc(build(t, builtin.Catalogue(), year).Entries, func(e api.Entry) bool { return slices.Contains(e.Commem, feast) }) {
			t.Errorf("%s is not commemorated in %d", feast, year)
		}
	}
}

// P28.2: each feast in years of each length with each date of Easter, by Where of layer
// 23. In none of them, and so in no year, is a feast of the built-in catalogue omitted.
func TestWhereInManyYears(t *testing.T) {
	for _, year := range yearsOfEaster() {
		k := build(t, builtin.Catalogue(), year)
		if slices.ContainsFunc(k.Entries, func(e api.Entry) bool { return len(e.Omitted) > 0 }) {
			t.Errorf("feasts are omitted in %d", year)
		}
		for _, feast := range feastNames() {
			d, ok := ordo.Where(k, feast)
			if !ok {
				t.Fatalf("%s is nowhere in %d", feast, year)
			}
			expect(t, whereQuery(year, feast), answered(query.DateText(d)))
		}
	}
}

// P28.2: identifiers that are no feasts, also those of seasons, and texts that are no
// identifiers.
func TestWhereOfOtherFeasts(t *testing.T) {
	ids := append(builtin.Names()[:8], "", "a", "x9", "nowhere", "annunciatio", "annunciations", "Annunciation", "ANNUNCIATION", " annunciation", "annunciation ", "annunciation\n", "annunciation\x00", "annunciation joseph", "-", "a--b", "é", "\xff", "2024 4 8", severalText, strings.Repeat("a", 1<<20))
	for _, id := range ids {
		for _, year := range []int{1583, 2024, api.MaxYear} {
			expect(t, whereQuery(year, id), refused(api.ErrArg))
		}
		for _, year := range []int{least, -2024, 0, 1, 1582, api.MaxYear + 1, most} {
			expect(t, whereQuery(year, id), refused(api.ErrRange))
		}
	}
}

// P28.2: feasts in years outside of the range.
func TestWhereOutsideOfTheRange(t *testing.T) {
	for _, feast := range feastNames() {
		for _, year := range []int{least, -2024, 0, 1, 1581, 1582, api.MaxYear + 1, 1<<32 + 2024, most} {
			expect(t, whereQuery(year, feast), refused(api.ErrRange))
		}
	}
}
