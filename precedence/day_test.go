package precedence_test

import (
	"strconv"
	"testing"

	"computus/api"
	"computus/candidate"
	"computus/gregorian"
	"computus/precedence"
)

func fixed(month, day int) api.Anchor {
	return api.Anchor{Kind: api.Fixed, Month: month, Day: day}
}

func paschal(offset int) api.Anchor {
	return api.Anchor{Kind: api.Paschal, Offset: offset}
}

func nth(month, day, weekday, count int) api.Anchor {
	return api.Anchor{Kind: api.Nth, Month: month, Day: day, Weekday: weekday, Count: count}
}

// seasonOf returns a season with the ranks of its Sundays and of its other days.
func seasonOf(id string, sunday, weekday int, start api.Anchor) api.Season {
	return api.Season{ID: id, Sunday: sunday, Weekday: weekday, Start: start}
}

func feastOf(id string, rank int, at api.Anchor) api.Feast {
	return api.Feast{ID: id, Rank: rank, Policy: api.Commemorate, At: at}
}

// roman returns a catalogue like those of the western churches.
func roman() api.Catalogue {
	return api.Catalogue{
		Free: 5,
		Seasons: []api.Season{
			seasonOf("ordinary-time", 6, 9, nth(1, 8, api.Monday, 1)),
			seasonOf("lent", 2, 8, paschal(-46)),
			seasonOf("holy-week", 2, 2, paschal(-7)),
			seasonOf("octave-of-easter", 1, 1, paschal(0)),
			seasonOf("eastertide", 2, 9, paschal(8)),
			seasonOf("ordinary-time-2", 6, 9, paschal(50)),
			seasonOf("advent", 2, 8, nth(11, 27, api.Sunday, 1)),
			seasonOf("christmas", 5, 7, fixed(12, 25)),
		},
		Feasts: []api.Feast{
			feastOf("mary", 3, fixed(1, 1)),
			feastOf("joseph", 3, fixed(3, 19)),
			feastOf("annunciation", 3, fixed(3, 25)),
			feastOf("easter-sunday", 1, paschal(0)),
			feastOf("mark", 5, fixed(4, 25)),
			feastOf("john-baptist", 3, fixed(6, 24)),
			feastOf("sacred-heart", 3, paschal(68)),
			feastOf("transfiguration", 6, fixed(8, 6)),
			feastOf("nativity", 1, fixed(12, 25)),
		},
	}
}

// crowded returns a catalogue with as many feasts as there may be, of few ranks and
// on few days, and with seasons of the same ranks.
func crowded() api.Catalogue {
	c := api.Catalogue{Free: 5, Seasons: []api.Season{seasonOf("winter", 2, 3, fixed(1, 1)), seasonOf("spring", 1, 2, paschal(-30)), seasonOf("summer", 3, 3, fixed(6, 1))}}
	for i := range 400 {
		at := fixed(1+i*5%12, 1+i*7%9)
		if i%4 == 1 {
			at = paschal(i*13%331/9*9 - 80)
		}
		if i%4 == 2 {
			at = nth(1+i*7%11, 8, i%7, 1+i%4)
		}
		c.Feasts = append(c.Feasts, feastOf("feast-"+strconv.Itoa(i), 1+i*3%4, at))
	}
	return c
}

// sameDay returns a catalogue with many feasts of one rank, which are all on
// Easter, as is the start of the only season.
func sameDay() api.Catalogue {
	c := api.Catalogue{Free: 5, Seasons: []api.Season{seasonOf("year", 4, 4, paschal(0))}}
	for i := range 150 {
		c.Feasts = append(c.Feasts, feastOf("feast-"+strconv.Itoa(i), 4, paschal(0)))
	}
	return c
}

// yearOf returns the candidates of all days of a year.
func yearOf(t *testing.T, c api.Catalogue, year int) [][]candidate.Candidate {
	t.Helper()
	l, errno := candidate.Year(c, year)
	if errno != api.OK {
		t.Fatalf("Year(%d): error %v", year, errno)
	}
	return l
}

// ofDate returns the candidates of a date.
func ofDate(t *testing.T, c api.Catalogue, year, month, day int) []candidate.Candidate {
	t.Helper()
	n, _ := gregorian.ToDay(api.Date{Year: year, Month: month, Day: day})
	l, errno := candidate.Of(c, year, n)
	if errno != api.OK {
		t.Fatalf("Of %d-%d-%d: error %v", year, month, day, errno)
	}
	return l
}

// P20.4: of two candidates of a day of common and leap years, one precedes the
// other; so their order does not depend on that in which they are given.
func TestDaysAreOrderedStrictly(t *testing.T) {
	for _, c := range []api.Catalogue{roman(), crowded(), sameDay()} {
		for _, year := range []int{1583, 1600, 1943, 2000, 2008, 2022, 2023, 2024, 2100, 2285, api.MaxYear - 1, api.MaxYear} {
			for _, l := range yearOf(t, c, year) {
				for i, a := range l {
					for _, b := range l[i+1:] {
						if precedence.Precedes(a, b) == precedence.Precedes(b, a) {
							t.Fatalf("%d: not one of %v and %v precedes the other", year, a, b)
						}
					}
				}
				want := sorted(l)
				expectSort(t, l, want)
				expectSort(t, backward(l), want)
				expectSort(t, shuffled(l, year), want)
				expectFirst(t, l, want[0])
				expectFirst(t, backward(l), want[0])
			}
		}
	}
}

// P20.4: many feasts of one rank on one day are in the order of the catalogue,
// after the season.
func TestManyOfOneRank(t *testing.T) {
	l := ofDate(t, sameDay(), 2024, 3, 31)
	if len(l) != 151 {
		t.Fatalf("%d candidates on Easter, want 151", len(l))
	}
	want := list(temporal(0, 4, "year"))
	for i := range 150 {
		want = append(want, proper(i, 4, "feast-"+strconv.Itoa(i)))
	}
	expectSort(t, l, want)
	expectSort(t, backward(l), want)
	expectSort(t, shuffled(l, 3), want)
	expectFirst(t, backward(l), want[0])
}

// P20.2, P20.3 and P20.4: known days, with feasts that precede the season or not,
// and feasts and seasons of one rank.
func TestKnownDays(t *testing.T) {
	for _, x := range []struct {
		year, month, day int
		want             []candidate.Candidate
	}{
		{2024, 3, 25, list(temporal(2, 2, "holy-week"), proper(2, 3, "annunciation"))},
		{2023, 3, 25, list(proper(2, 3, "annunciation"), temporal(1, 8, "lent"))},
		{2008, 3, 19, list(temporal(2, 2, "holy-week"), proper(1, 3, "joseph"))},
		{2024, 3, 31, list(temporal(3, 1, "octave-of-easter"), proper(3, 1, "easter-sunday"))},
		{2022, 6, 24, list(proper(5, 3, "john-baptist"), proper(6, 3, "sacred-heart"), temporal(5, 9, "ordinary-time-2"))},
		{1943, 4, 25, list(temporal(3, 1, "octave-of-easter"), proper(3, 1, "easter-sunday"), proper(4, 5, "mark"))},
		{2023, 8, 6, list(temporal(5, 6, "ordinary-time-2"), proper(7, 6, "transfiguration"))},
		{2024, 8, 6, list(proper(7, 6, "transfiguration"), temporal(5, 9, "ordinary-time-2"))},
		{2024, 12, 25, list(proper(8, 1, "nativity"), temporal(7, 7, "christmas"))},
		{2023, 5, 3, list(temporal(4, 9, "eastertide"))},
	} {
		l := ofDate(t, roman(), x.year, x.month, x.day)
		expectSort(t, l, x.want)
		expectSort(t, backward(l), x.want)
		expectFirst(t, l, x.want[0])
		expectFirst(t, backward(l), x.want[0])
	}
}
