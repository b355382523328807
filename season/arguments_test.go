package season_test

import (
	"slices"
	"testing"

	"computus/api"
	"computus/season"
)

// P18.4: no item of the catalogue is modified, neither in its lists nor in their
// unused capacity, whether there is a result or an error.
func TestArgumentsAreNotModified(t *testing.T) {
	wrong := western()
	wrong.Seasons[0].Sunday = 0
	for _, c := range append(catalogues(), wrong) {
		s, f, free := slices.Clone(c.Seasons), slices.Clone(c.Feasts), c.Free
		part := c
		part.Seasons, part.Feasts = c.Seasons[:(len(c.Seasons)+1)/2], c.Feasts[:len(c.Feasts)/2]
		for _, d := range []api.Catalogue{c, part} {
			for _, year := range []int{2023, 2024, 1582} {
				season.Starts(d, year)
				for day := 738_520; day < 739_260; day += 61 {
					ask(d, year, day)
				}
			}
		}
		if !slices.Equal(c.Seasons, s) || !slices.Equal(c.Feasts, f) || c.Free != free {
			t.Errorf("the catalogue has been modified: %+v", c)
		}
	}
}

// P18.2: seasons beyond the list are no part of the catalogue.
func TestUnusedCapacity(t *testing.T) {
	c := seasons(fixed(6, 24), fixed(12, 25), fixed(6, 24), fixed(12, 31))
	c.Seasons = c.Seasons[:2]
	expectStarts(t, c, 2024, [2]int{6, 24}, [2]int{12, 25})
	expectKnown(t, c, []known{
		{2024, 1, 1, place{1, 0, false}},
		{2024, 6, 24, place{0, 0, true}},
		{2024, 12, 31, place{1, 1, false}},
	})
}

// P18.4: the starts of each call are new memory, whatever the caller does with
// those of an earlier call.
func TestStartsAreNewlyAllocated(t *testing.T) {
	for _, c := range catalogues() {
		first, _ := season.Starts(c, 2024)
		want := slices.Clone(first)
		second, _ := season.Starts(c, 2024)
		for i := range first {
			first[i] = -1
		}
		_ = append(first[:0], 7)
		third, errno := season.Starts(c, 2024)
		if !slices.Equal(second, want) || !slices.Equal(third, want) || errno != api.OK {
			t.Errorf("Starts = %v and %v, want %v", second, third, want)
		}
		for _, start := range want {
			if got, errs := ask(c, 2024, start); want[got.season] != start || !got.begins || errs != [3]api.Errno{} {
				t.Errorf("day %d: %+v, %v", start, got, errs)
			}
		}
	}
}

// P18.1 and P18.2: results do not depend on earlier calls with other catalogues
// and years.
func TestResultsOfCallsInTurn(t *testing.T) {
	c := western()
	for range 3 {
		expectStarts(t, seasons(fixed(1, 1)), 2024, [2]int{1, 1})
		expectKnown(t, c, []known{{2023, 4, 9, place{3, 1, true}}, {2024, 4, 9, place{4, 0, false}}})
		expectKnown(t, reversed(c), []known{{2023, 4, 9, place{4, 1, true}}, {2024, 4, 9, place{3, 0, false}}})
		expectError(t, "year", c, 1582, 577_800, api.ErrRange)
		c.Seasons[3].Start = fixed(4, 9)
		expectKnown(t, c, []known{{2024, 4, 9, place{3, 0, true}}, {2024, 3, 31, place{2, 2, false}}})
		c.Seasons[3].Start = paschal(0)
	}
}
