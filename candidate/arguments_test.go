package candidate_test

import (
	"slices"
	"testing"

	"computus/api"
	"computus/candidate"
)

// junk is what the caller writes into results.
func junk(mark int) candidate.Candidate {
	return candidate.Candidate{Kind: 9, Index: mark, Rank: -1, ID: "junk"}
}

// spoil writes junk into a list and into its unused capacity.
func spoil(l []candidate.Candidate, mark int) {
	l = l[:cap(l)]
	for i := range l {
		l[i] = junk(mark)
	}
}

// copyOf returns a copy of the lists of a year.
func copyOf(l [][]candidate.Candidate) [][]candidate.Candidate {
	var out [][]candidate.Candidate
	for _, x := range l {
		out = append(out, slices.Clone(x))
	}
	return out
}

// P19.4: no item of the catalogue is modified, neither in its lists nor in their
// unused capacity, whether there is a result or an error.
func TestArgumentsAreNotModified(t *testing.T) {
	wrong := roman()
	wrong.Feasts[0].Rank = 0
	for _, c := range append(someCatalogues(), wrong) {
		s, f, free := slices.Clone(c.Seasons), slices.Clone(c.Feasts), c.Free
		part := c
		part.Seasons, part.Feasts = c.Seasons[:(len(c.Seasons)+1)/2], c.Feasts[:len(c.Feasts)/2]
		for _, d := range []api.Catalogue{c, part} {
			for _, year := range []int{2023, 2024, 1582} {
				candidate.Year(d, year)
				for day := 738_500; day < 739_300; day += 57 {
					candidate.Of(d, year, day)
				}
			}
		}
		if !slices.Equal(c.Seasons, s) || !slices.Equal(c.Feasts, f) || c.Free != free {
			t.Errorf("the catalogue has been modified: %+v", c)
		}
	}
}

// P19.1 and P19.2: seasons and feasts beyond the lists are no part of the
// catalogue, even if they are not well-formed.
func TestUnusedCapacity(t *testing.T) {
	c := api.Catalogue{
		Seasons: []api.Season{seasonOf("winter", 1, 2, fixed(12, 25)), seasonOf("end", 3, 4, fixed(12, 31)), {}},
		Feasts:  []api.Feast{feastOf("nativity", 1, fixed(12, 25)), feastOf("sylvester", 2, fixed(12, 31)), {}},
	}
	c.Seasons, c.Feasts = c.Seasons[:1], c.Feasts[:1]
	expectKnown(t, c, 2024, []known{
		{12, 25, list(temporal(0, 2, "winter"), proper(0, 1, "nativity"))},
		{12, 31, list(temporal(0, 2, "winter"))},
	})
	c.Feasts = c.Feasts[:0]
	expectKnown(t, c, 2024, []known{{12, 25, list(temporal(0, 2, "winter"))}})
}

// P19.4: the candidates of a day are new memory, whatever the caller does with
// those of an earlier call.
func TestResultsOfOfAreNewlyAllocated(t *testing.T) {
	for _, c := range someCatalogues() {
		want := yearOf(t, c, 2024)
		for i := 0; i < len(want); i += 5 {
			day := dayOf(t, 2024, 1, 1) + i
			first, _ := candidate.Of(c, 2024, day)
			second, _ := candidate.Of(c, 2024, day)
			spoil(first, 1)
			_ = append(first[:0], junk(2), junk(3))
			if !slices.Equal(second, want[i]) {
				t.Errorf("day %d has been modified: %v, want %v", day, second, want[i])
			}
			expectOf(t, c, 2024, day, want[i])
		}
	}
}

// P19.4: the candidates of a year are new memory, whatever the caller does with
// those of an earlier call: with the lists and with the list of lists.
func TestResultsOfYearAreNewlyAllocated(t *testing.T) {
	for _, c := range someCatalogues() {
		for _, year := range someKinds() {
			first, second := yearOf(t, c, year), yearOf(t, c, year)
			want := copyOf(first)
			for _, l := range first {
				spoil(l, 1)
			}
			lists := first[:cap(first)]
			for i := range lists {
				lists[i] = list(junk(2))
			}
			for _, got := range [][][]candidate.Candidate{second, yearOf(t, c, year)} {
				if !slices.EqualFunc(got, want, slices.Equal) {
					t.Errorf("Year(%d) has been modified: %v, want %v", year, got, want)
				}
			}
			expectOf(t, c, year, dayOf(t, year, 12, 31), want[len(want)-1])
		}
	}
}

// P19.4: the lists of different days of one year share no memory, not even their
// unused capacity: each keeps the junk that is its own.
func TestListsOfAYearShareNoMemory(t *testing.T) {
	for _, c := range someCatalogues() {
		for _, year := range someKinds() {
			l := yearOf(t, c, year)
			for i := range l {
				spoil(l[i], i)
			}
			for i, x := range l {
				for _, got := range x[:cap(x)] {
					if got != junk(i) {
						t.Fatalf("day %d of %d shares memory with day %d", i, year, got.Index)
					}
				}
			}
		}
	}
}

// P19.4: a list that grows does not run over another one of the year.
func TestListsOfAYearGrow(t *testing.T) {
	for _, c := range someCatalogues() {
		l := yearOf(t, c, 2024)
		want := copyOf(l)
		for i := range l {
			_ = append(l[i], junk(i), junk(i), junk(i))
		}
		if !slices.EqualFunc(l, want, slices.Equal) {
			t.Errorf("the lists have been modified: %v, want %v", l, want)
		}
	}
}

// P19.4: the results do not change with the catalogue of the call.
func TestResultsDoNotChangeWithTheArguments(t *testing.T) {
	c := roman()
	year, _ := candidate.Year(c, 2024)
	day, _ := candidate.Of(c, 2024, dayOf(t, 2024, 12, 25))
	want := copyOf(append(year, day))
	clear(c.Seasons)
	clear(c.Feasts)
	if !slices.EqualFunc(append(year, day), want, slices.Equal) {
		t.Errorf("the results have been modified: %v, want %v", year, want)
	}
}

// P19.1 and P19.2: results do not depend on earlier calls with other catalogues,
// years and days, or on those that failed.
func TestResultsOfCallsInTurn(t *testing.T) {
	c := roman()
	for range 3 {
		expectKnown(t, oneSeason(), 2024, []known{{3, 31, list(temporal(0, 5, "year"))}})
		expectKnown(t, c, 2024, []known{{3, 31, list(temporal(3, 1, "octave-of-easter"), proper(5, 1, "easter-sunday"))}})
		expectKnown(t, c, 2023, []known{{3, 31, list(temporal(1, 8, "lent"))}})
		expectYearError(t, "year", c, 1582, api.ErrRange)
		c.Feasts[5].At = fixed(3, 31)
		expectKnown(t, c, 2023, []known{
			{3, 31, list(temporal(1, 8, "lent"), proper(5, 1, "easter-sunday"))},
			{4, 9, list(temporal(3, 1, "octave-of-easter"))},
		})
		expectOfError(t, "day", c, 2023, 738_886, api.ErrDate)
		c.Feasts[5].At = paschal(0)
	}
}
