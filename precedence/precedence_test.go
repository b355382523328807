package precedence_test

import (
	"math"
	"slices"
	"testing"

	"computus/api"
	"computus/candidate"
	"computus/precedence"
)

const (
	least = math.MinInt
	most  = math.MaxInt
)

// of returns a candidate.
func of(rank, kind, index int, id string) candidate.Candidate {
	return candidate.Candidate{Rank: rank, Kind: kind, Index: index, ID: id}
}

func temporal(index, rank int, id string) candidate.Candidate {
	return of(rank, 1, index, id)
}

func proper(index, rank int, id string) candidate.Candidate {
	return of(rank, 2, index, id)
}

func list(l ...candidate.Candidate) []candidate.Candidate {
	return l
}

// edges lists the numbers at which comparisons change, and the ends of their
// range.
func edges() []int {
	return []int{least, least + 1, math.MinInt32, -3, -2, -1, 0, 1, 2, 3, 9, math.MaxInt32, most - 1, most}
}

// precedes is the definition: the ranks, the kinds and the indexes are compared
// as the letters of words are.
func precedes(a, b candidate.Candidate) bool {
	return slices.Compare([]int{a.Rank, a.Kind, a.Index}, []int{b.Rank, b.Kind, b.Index}) < 0
}

// expectPrecedes tests that a precedes b, and not the other way round.
func expectPrecedes(t *testing.T, a, b candidate.Candidate) {
	t.Helper()
	if !precedence.Precedes(a, b) {
		t.Errorf("%+v does not precede %+v", a, b)
	}
	if precedence.Precedes(b, a) {
		t.Errorf("%+v precedes %+v", b, a)
	}
}

// expectNeither tests that neither of a and b precedes the other.
func expectNeither(t *testing.T, a, b candidate.Candidate) {
	t.Helper()
	if precedence.Precedes(a, b) {
		t.Errorf("%+v precedes %+v", a, b)
	}
	if precedence.Precedes(b, a) {
		t.Errorf("%+v precedes %+v", b, a)
	}
}

// P20.1, P20.2 and P20.3: the example of the chapter.
func TestExample(t *testing.T) {
	a, b, c := temporal(0, 4, "season"), proper(1, 4, "feast"), proper(2, 3, "greater-feast")
	expectPrecedes(t, a, b)
	expectPrecedes(t, c, a)
	expectPrecedes(t, c, b)
	expectSort(t, list(a, b, c), list(c, a, b))
	expectFirst(t, list(a, b, c), c)
	expectFirst(t, list(b, a), a)
}

// P20.1: candidates that differ in one field alone. The first one precedes.
func TestDifferInOneField(t *testing.T) {
	base := of(4, 2, 7, "m")
	for _, x := range [][2]candidate.Candidate{
		{of(3, 2, 7, "m"), base},
		{base, of(5, 2, 7, "m")},
		{of(-4, 2, 7, "m"), base},
		{of(0, 2, 7, "m"), base},
		{base, of(10, 2, 7, "m")},
		{of(4, 1, 7, "m"), base},
		{base, of(4, 3, 7, "m")},
		{of(4, 0, 7, "m"), base},
		{of(4, -2, 7, "m"), base},
		{base, of(4, 10, 7, "m")},
		{of(4, 2, 6, "m"), base},
		{base, of(4, 2, 8, "m")},
		{of(4, 2, 0, "m"), base},
		{of(4, 2, -7, "m"), base},
		{base, of(4, 2, 10, "m")},
	} {
		expectPrecedes(t, x[0], x[1])
	}
}

// P20.1: the ID makes no difference, whether it is less, greater, longer or empty.
func TestIDsAreNotCompared(t *testing.T) {
	for _, id := range []string{"", "a", "b", "m", "mm", "z", "M", "\x00", "\xff", "m\n"} {
		for _, base := range []candidate.Candidate{of(4, 2, 7, "m"), of(0, 0, 0, ""), of(1, 1, 0, "z")} {
			same := base
			same.ID = id
			expectNeither(t, base, same)
		}
		expectPrecedes(t, of(3, 2, 7, id), of(4, 2, 7, "m"))
		expectPrecedes(t, of(3, 2, 7, "m"), of(4, 2, 7, id))
		expectPrecedes(t, of(4, 1, 7, id), of(4, 2, 7, "m"))
		expectPrecedes(t, of(4, 1, 7, "m"), of(4, 2, 7, id))
		expectPrecedes(t, of(4, 2, 6, id), of(4, 2, 7, "m"))
		expectPrecedes(t, of(4, 2, 6, "m"), of(4, 2, 7, id))
	}
}

// P20.1: candidates that differ in two and three fields. The first one precedes,
// as the rank decides before the kind, and the kind before the index.
func TestDifferInMoreFields(t *testing.T) {
	base := of(4, 2, 7, "m")
	for _, x := range [][2]candidate.Candidate{
		{of(3, 1, 7, "m"), base},
		{of(3, 3, 7, "m"), base},
		{base, of(5, 1, 7, "m")},
		{base, of(5, 3, 7, "m")},
		{of(3, 2, 6, "m"), base},
		{of(3, 2, 8, "m"), base},
		{base, of(5, 2, 6, "m")},
		{base, of(5, 2, 8, "m")},
		{of(4, 1, 6, "m"), base},
		{of(4, 1, 8, "m"), base},
		{base, of(4, 3, 6, "m")},
		{base, of(4, 3, 8, "m")},
		{of(3, 1, 6, "m"), base},
		{of(3, 1, 8, "m"), base},
		{of(3, 3, 6, "m"), base},
		{of(3, 3, 8, "z"), base},
		{base, of(5, 1, 6, "a")},
		{base, of(5, 1, 8, "m")},
		{base, of(5, 3, 6, "m")},
		{base, of(5, 3, 8, "m")},
		{of(3, most, most, "z"), of(4, least, least, "a")},
		{of(4, 1, most, "z"), of(4, 2, least, "a")},
		{of(least, most, most, "z"), of(least+1, least, least, "a")},
		{of(most-1, most, most, "z"), of(most, least, least, "a")},
	} {
		expectPrecedes(t, x[0], x[1])
	}
}

// P20.1: no candidate precedes itself or an equal one.
func TestEqualCandidates(t *testing.T) {
	for _, rank := range edges() {
		for _, kind := range edges() {
			for _, index := range edges() {
				a := of(rank, kind, index, "same")
				expectNeither(t, a, a)
				expectNeither(t, a, of(rank, kind, index, "same"))
			}
		}
	}
}

// P20.1: the least and the greatest integers, next to each other and next to
// small ones, in each field: differences that overflow do not turn the order.
func TestEndsOfTheRange(t *testing.T) {
	l := edges()
	for i, low := range l {
		for _, high := range l[i+1:] {
			for _, same := range []int{least, -1, 0, 1, most} {
				expectPrecedes(t, of(low, same, same, "z"), of(high, same, same, "a"))
				expectPrecedes(t, of(same, low, same, "z"), of(same, high, same, "a"))
				expectPrecedes(t, of(same, same, low, "z"), of(same, same, high, "a"))
				expectPrecedes(t, of(low, high, high, "z"), of(high, low, low, "a"))
				expectPrecedes(t, of(same, low, high, "z"), of(same, high, low, "a"))
			}
		}
	}
}

// P20.1: Temporal is before Proper, and kinds that are neither are compared as
// numbers as well.
func TestKinds(t *testing.T) {
	kinds := []int{least, -2, -1, 0, api.Temporal, api.Proper, api.Moved, 4, 100, most}
	for i, low := range kinds {
		for _, high := range kinds[i+1:] {
			expectPrecedes(t, of(4, low, 9, "z"), of(4, high, 0, "a"))
			expectPrecedes(t, of(3, high, 9, "z"), of(4, low, 0, "a"))
		}
	}
}

// P20.1: each two of many candidates, by the definition.
func TestPrecedesByDefinition(t *testing.T) {
	var l []candidate.Candidate
	for _, rank := range []int{least, -1, 0, 1, 2, 9, most} {
		for _, kind := range []int{least, 0, 1, 2, 3, most} {
			for _, index := range []int{least, -1, 0, 1, 2, 100, most} {
				l = append(l, of(rank, kind, index, string(rune('a'+len(l)*7%26))))
			}
		}
	}
	for _, a := range l {
		for _, b := range l {
			if got, want := precedence.Precedes(a, b), precedes(a, b); got != want {
				t.Fatalf("Precedes(%+v, %+v) = %v, want %v", a, b, got, want)
			}
		}
	}
}

// few lists candidates of all ranks, kinds and indexes of a few, and of each with
// two IDs, so that neither of the two precedes the other.
func few() []candidate.Candidate {
	var l []candidate.Candidate
	for _, rank := range []int{least, 0, 1, most} {
		for _, kind := range []int{least, 1, 2, most} {
			for _, index := range []int{least, 0, 1, most} {
				l = append(l, of(rank, kind, index, "a"), of(rank, kind, index, "b"))
			}
		}
	}
	return l
}

// P20.1: for each three candidates, if the first precedes the second and the
// second the third, then the first the third; and if neither of the first and the
// second precedes the other, nor of the second and the third, then nor of the first
// and the third.
func TestEachThree(t *testing.T) {
	l := few()
	for _, a := range l {
		for _, b := range l {
			ab, ba := precedence.Precedes(a, b), precedence.Precedes(b, a)
			if ab && ba {
				t.Fatalf("%+v and %+v precede each other", a, b)
			}
			for _, c := range l {
				bc, cb := precedence.Precedes(b, c), precedence.Precedes(c, b)
				ac, ca := precedence.Precedes(a, c), precedence.Precedes(c, a)
				if ab && bc && !ac {
					t.Fatalf("%+v, %+v and %+v precede one another, but not the first the last", a, b, c)
				}
				if !ab && !ba && !bc && !cb && (ac || ca) {
					t.Fatalf("of %+v, %+v and %+v, only the first and the last precede one another", a, b, c)
				}
			}
		}
	}
}
