package candidate_test

import (
	"math"
	"slices"
	"testing"

	"computus/api"
	"computus/candidate"
	"computus/gregorian"
)

const (
	least = math.MinInt
	most  = math.MaxInt
)

func fixed(month, day int) api.Anchor {
	return api.Anchor{Kind: api.Fixed, Month: month, Day: day}
}

func paschal(offset int) api.Anchor {
	return api.Anchor{Kind: api.Paschal, Offset: offset}
}

func nth(month, day, weekday, count int) api.Anchor {
	return api.Anchor{Kind: api.Nth, Month: month, Day: day, Weekday: weekday, Count: count}
}

// seasonOf returns a season with the ranks of its Sundays and of its other days.
func seasonOf(id string, sunday, weekday int, start api.Anchor) api.Season {
	return api.Season{ID: id, Sunday: sunday, Weekday: weekday, Start: start}
}

// feastOf returns a feast. Its policy, which candidates do not depend on, goes
// with the rank, so that all policies occur.
func feastOf(id string, rank int, at api.Anchor) api.Feast {
	return api.Feast{ID: id, Rank: rank, Policy: 1 + rank%3, At: at}
}

// oneSeason returns a catalogue with a season from 1 January on and with feasts.
func oneSeason(feasts ...api.Feast) api.Catalogue {
	return api.Catalogue{Free: 5, Seasons: []api.Season{seasonOf("year", 5, 6, fixed(1, 1))}, Feasts: feasts}
}

// roman returns a catalogue like those of the western churches, with seasons whose
// ranks of Sundays and of other days are the same and different.
func roman() api.Catalogue {
	return api.Catalogue{
		Free: 5,
		Seasons: []api.Season{
			seasonOf("ordinary-time", 6, 9, nth(1, 8, api.Monday, 1)),
			seasonOf("lent", 2, 8, paschal(-46)),
			seasonOf("holy-week", 2, 2, paschal(-7)),
			seasonOf("octave-of-easter", 1, 1, paschal(0)),
			seasonOf("eastertide", 2, 9, paschal(8)),
			seasonOf("ordinary-time-2", 6, 9, paschal(50)),
			seasonOf("advent", 2, 8, nth(11, 27, api.Sunday, 1)),
			seasonOf("christmas", 5, 7, fixed(12, 25)),
		},
		Feasts: []api.Feast{
			feastOf("sylvester", 8, fixed(12, 31)),
			feastOf("mary", 3, fixed(1, 1)),
			feastOf("epiphany", 2, fixed(1, 6)),
			feastOf("joseph", 3, fixed(3, 19)),
			feastOf("annunciation", 3, fixed(3, 25)),
			feastOf("easter-sunday", 1, paschal(0)),
			feastOf("mark", 5, fixed(4, 25)),
			feastOf("ascension", 2, paschal(39)),
			feastOf("trinity", 3, paschal(56)),
			feastOf("corpus-christi", 3, paschal(60)),
			feastOf("sacred-heart", 3, paschal(68)),
			feastOf("john-baptist", 3, fixed(6, 24)),
			feastOf("memorial-day", 9, nth(5, 31, api.Monday, -1)),
			feastOf("visitation", 5, fixed(5, 31)),
			feastOf("christ-the-king", 3, nth(11, 26, api.Sunday, -1)),
			feastOf("cecilia", 7, fixed(11, 22)),
			feastOf("thanksgiving", 8, nth(11, 22, api.Thursday, 1)),
			feastOf("immaculate-conception", 3, fixed(12, 8)),
			feastOf("nativity", 1, fixed(12, 25)),
			feastOf("holy-family", 4, nth(12, 31, api.Sunday, -1)),
			feastOf("rogation", 6, paschal(5)),
		},
	}
}

// reversed returns a catalogue with the seasons and the feasts of c in the reverse
// order.
func reversed(c api.Catalogue) api.Catalogue {
	c.Seasons, c.Feasts = slices.Clone(c.Seasons), slices.Clone(c.Feasts)
	slices.Reverse(c.Seasons)
	slices.Reverse(c.Feasts)
	return c
}

// dayOf returns the day number of a date.
func dayOf(t *testing.T, year, month, day int) int {
	t.Helper()
	n, errno := gregorian.ToDay(api.Date{Year: year, Month: month, Day: day})
	if errno != api.OK {
		t.Fatalf("there is no %d-%d-%d", year, month, day)
	}
	return n
}

func temporal(index, rank int, id string) candidate.Candidate {
	return candidate.Candidate{Kind: 1, Index: index, Rank: rank, ID: id}
}

func proper(index, rank int, id string) candidate.Candidate {
	return candidate.Candidate{Kind: 2, Index: index, Rank: rank, ID: id}
}

func list(l ...candidate.Candidate) []candidate.Candidate {
	return l
}

// yearOf returns the candidates of all days of a year.
func yearOf(t *testing.T, c api.Catalogue, year int) [][]candidate.Candidate {
	t.Helper()
	l, errno := candidate.Year(c, year)
	if errno != api.OK {
		t.Fatalf("Year(%d): error %v", year, errno)
	}
	return l
}

// expectOf tests the candidates that Of returns for a day.
func expectOf(t *testing.T, c api.Catalogue, year, day int, want []candidate.Candidate) {
	t.Helper()
	if got, errno := candidate.Of(c, year, day); errno != api.OK || !slices.Equal(got, want) {
		date, _ := gregorian.FromDay(day)
		t.Errorf("Of day %d (%v) = %v, %v, want %v", day, date, got, errno, want)
	}
}

// known is a date with its candidates.
type known struct {
	month, day int
	want       []candidate.Candidate
}

// expectKnown tests the candidates of dates of a year, as those of a day and as
// those of the whole year.
func expectKnown(t *testing.T, c api.Catalogue, year int, dates []known) {
	t.Helper()
	l := yearOf(t, c, year)
	for _, x := range dates {
		day := dayOf(t, year, x.month, x.day)
		expectOf(t, c, year, day, x.want)
		i := day - dayOf(t, year, 1, 1)
		if i >= len(l) || !slices.Equal(l[i], x.want) {
			t.Errorf("Year(%d) without the candidates %v of %d-%d", year, x.want, x.month, x.day)
		}
	}
}

// P19.1 and P19.2: the example of the chapter.
func TestExample(t *testing.T) {
	c := oneSeason(feastOf("nativity", 1, fixed(12, 25)))
	for _, year := range []int{2023, 2024} {
		christmas := dayOf(t, year, 12, 25)
		for i, l := range yearOf(t, c, year) {
			day := dayOf(t, year, 1, 1) + i
			want := list(temporal(0, 6, "year"))
			if day%7 == api.Sunday {
				want = list(temporal(0, 5, "year"))
			}
			if day == christmas {
				want = append(want, proper(0, 1, "nativity"))
			}
			expectOf(t, c, year, day, want)
			if !slices.Equal(l, want) {
				t.Errorf("day %d of %d: %v, want %v", day, year, l, want)
			}
		}
	}
}

// P19.1 and P19.2: the day numbers of known days.
func TestKnownDayNumbers(t *testing.T) {
	c := oneSeason(feastOf("easter-sunday", 1, paschal(0)), feastOf("new-year", 7, fixed(1, 1)))
	expectOf(t, c, 1583, 577_814, list(temporal(0, 6, "year"), proper(1, 7, "new-year")))
	expectOf(t, c, 1583, 577_913, list(temporal(0, 5, "year"), proper(0, 1, "easter-sunday")))
	expectOf(t, c, 1583, 578_178, list(temporal(0, 6, "year")))
	expectOf(t, c, 2000, 730_120, list(temporal(0, 6, "year"), proper(1, 7, "new-year")))
	expectOf(t, c, 2000, 730_121, list(temporal(0, 5, "year")))
	expectOf(t, c, 2000, 730_485, list(temporal(0, 5, "year")))
	expectOf(t, c, 2024, 738_976, list(temporal(0, 5, "year"), proper(0, 1, "easter-sunday")))
	expectOf(t, c, api.MaxYear, 365_242_499_635, list(temporal(0, 6, "year"), proper(1, 7, "new-year")))
	expectOf(t, c, api.MaxYear, 365_242_500_000, list(temporal(0, 5, "year")))
}
