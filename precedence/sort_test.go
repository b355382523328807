package precedence_test

import (
	"slices"
	"strconv"
	"testing"

	"computus/candidate"
	"computus/precedence"
)

// beginning returns the first few candidates of a list, for messages about long
// lists.
func beginning(l []candidate.Candidate) []candidate.Candidate {
	return l[:min(len(l), 7)]
}

// expectSort tests the list that Sort returns.
func expectSort(t *testing.T, l, want []candidate.Candidate) {
	t.Helper()
	got := precedence.Sort(l)
	if len(got) != len(want) {
		t.Errorf("Sort of the %d candidates %v... returns %d, want %d", len(l), beginning(l), len(got), len(want))
		return
	}
	for i, x := range got {
		if x != want[i] {
			t.Errorf("Sort of the %d candidates %v... has %v at index %d, want %v", len(l), beginning(l), x, i, want[i])
			return
		}
	}
}

// sorted is the definition: the candidate at an index goes to the place that is
// the number of those that precede it and of those before it that do not follow
// it.
func sorted(l []candidate.Candidate) []candidate.Candidate {
	out := make([]candidate.Candidate, len(l))
	for i, x := range l {
		place := 0
		for j, y := range l {
			if precedes(y, x) || j < i && !precedes(x, y) {
				place++
			}
		}
		out[place] = x
	}
	return out
}

// numbers returns a function that yields numbers below a limit, in no apparent
// order, always the same ones for a seed.
func numbers(seed uint64) func(limit int) int {
	return func(limit int) int {
		seed = seed*6364136223846793005 + 1442695040888963407
		return int(seed >> 33 % uint64(limit))
	}
}

// mixed returns n candidates in no apparent order, whose ranks, kinds and indexes
// are below the limits, told apart by their IDs.
func mixed(n, ranks, kinds, indexes int) []candidate.Candidate {
	next := numbers(uint64(n*1000 + ranks*100 + kinds*10 + indexes))
	var l []candidate.Candidate
	for i := range n {
		l = append(l, of(next(ranks), next(kinds), next(indexes), strconv.Itoa(i)))
	}
	return l
}

// rising returns n candidates, each of which precedes the next one.
func rising(n int) []candidate.Candidate {
	var l []candidate.Candidate
	for i := range n {
		l = append(l, of(i/10-3, i/5%2+1, i%5, strconv.Itoa(n-i)))
	}
	return l
}

// backward returns the candidates of a list in the reverse order.
func backward(l []candidate.Candidate) []candidate.Candidate {
	l = slices.Clone(l)
	slices.Reverse(l)
	return l
}

// shuffled returns the candidates of a list in another order, which depends on a
// seed.
func shuffled(l []candidate.Candidate, seed int) []candidate.Candidate {
	l = slices.Clone(l)
	next := numbers(uint64(seed))
	for i := len(l) - 1; i > 0; i-- {
		j := next(i + 1)
		l[i], l[j] = l[j], l[i]
	}
	return l
}

// lengths lists lengths of lists, among them those at which sorts change their
// method.
func lengths() []int {
	return []int{0, 1, 2, 3, 4, 5, 8, 11, 12, 13, 14, 19, 20, 21, 22, 39, 40, 41, 50, 64, 100, 101, 127, 128, 257, 400, 1000}
}

// P20.2: nil and empty lists.
func TestSortOfNothing(t *testing.T) {
	some := list(proper(0, 3, "a"), proper(1, 2, "b"))
	for _, l := range [][]candidate.Candidate{nil, {}, some[:0], some[2:], make([]candidate.Candidate, 0, 5)} {
		if got := precedence.Sort(l); len(got) != 0 {
			t.Errorf("Sort(%v) = %v, want no candidates", l, got)
		}
	}
}

// P20.2: lists of one and two candidates.
func TestSortOfOneAndTwo(t *testing.T) {
	for _, a := range few() {
		expectSort(t, list(a), list(a))
		for _, b := range few() {
			if precedes(b, a) {
				expectSort(t, list(a, b), list(b, a))
			} else {
				expectSort(t, list(a, b), list(a, b))
			}
		}
	}
}

// P20.2: known lists, in which the rank, the kind and the index decide, or
// nothing does.
func TestSortOfKnownLists(t *testing.T) {
	expectSort(t,
		list(temporal(3, 6, "time"), proper(8, 3, "john"), proper(9, 3, "heart"), proper(2, 9, "other"), proper(0, 1, "easter")),
		list(proper(0, 1, "easter"), proper(8, 3, "john"), proper(9, 3, "heart"), temporal(3, 6, "time"), proper(2, 9, "other")))
	expectSort(t,
		list(proper(9, 3, "heart"), proper(8, 3, "john"), temporal(99, 3, "time")),
		list(temporal(99, 3, "time"), proper(8, 3, "john"), proper(9, 3, "heart")))
	expectSort(t,
		list(of(1, 3, 0, "moved"), of(1, 2, 0, "proper"), of(1, 1, 0, "temporal"), of(1, 0, 0, "none"), of(1, -1, 0, "below")),
		list(of(1, -1, 0, "below"), of(1, 0, 0, "none"), of(1, 1, 0, "temporal"), of(1, 2, 0, "proper"), of(1, 3, 0, "moved")))
	expectSort(t,
		list(of(most, 1, 0, "a"), of(0, 1, 0, "b"), of(least, 1, 0, "c"), of(most-1, 1, 0, "d"), of(least+1, 1, 0, "e"), of(-1, 1, 0, "f")),
		list(of(least, 1, 0, "c"), of(least+1, 1, 0, "e"), of(-1, 1, 0, "f"), of(0, 1, 0, "b"), of(most-1, 1, 0, "d"), of(most, 1, 0, "a")))
	expectSort(t,
		list(proper(1, 2, "z"), proper(1, 2, "b"), proper(0, 2, "y"), proper(1, 2, "a"), proper(0, 2, "x"), proper(1, 2, "")),
		list(proper(0, 2, "y"), proper(0, 2, "x"), proper(1, 2, "z"), proper(1, 2, "b"), proper(1, 2, "a"), proper(1, 2, "")))
	expectSort(t,
		list(proper(1, 2, "twice"), proper(0, 2, "other"), proper(1, 2, "twice")),
		list(proper(0, 2, "other"), proper(1, 2, "twice"), proper(1, 2, "twice")))
}

// permutations calls visit with a list in each order of its candidates, from the
// index k on.
func permutations(l []candidate.Candidate, k int, visit func([]candidate.Candidate)) {
	if k == len(l) {
		visit(l)
		return
	}
	for i := k; i < len(l); i++ {
		l[k], l[i] = l[i], l[k]
		permutations(l, k+1, visit)
		l[k], l[i] = l[i], l[k]
	}
}

// P20.2 and P20.3: each order of few candidates, of which each precedes the next
// one, or some do not.
func TestEachOrderOfFew(t *testing.T) {
	for _, l := range [][]candidate.Candidate{
		list(proper(0, 1, "a"), temporal(1, 2, "b"), proper(0, 2, "c"), proper(1, 2, "d"), temporal(0, 3, "e"), proper(0, 3, "f")),
		list(proper(0, 2, "a"), proper(0, 2, "b"), proper(0, 2, "c"), proper(1, 2, "d"), proper(1, 2, "e"), temporal(4, 3, "f")),
		list(of(0, 0, 0, "a"), of(0, 0, 0, "b"), of(0, 0, 0, "c"), of(0, 0, 0, "d"), of(0, 0, 0, "e"), of(0, 0, 0, "f")),
		list(temporal(1, 2, "a"), temporal(1, 2, "b"), proper(1, 2, "c"), proper(1, 2, "d"), proper(3, 2, "e"), proper(3, 2, "f"), temporal(3, 4, "g")),
	} {
		permutations(l, 0, func(x []candidate.Candidate) {
			want := sorted(x)
			expectSort(t, x, want)
			expectFirst(t, x, want[0])
		})
	}
}

// P20.2: lists in order, in reverse order and shuffled, of which each candidate
// precedes the next one.
func TestSortOfDistinctCandidates(t *testing.T) {
	for _, n := range lengths() {
		want := rising(n)
		expectSort(t, want, want)
		expectSort(t, backward(want), want)
		for seed := range 20 {
			expectSort(t, shuffled(want, seed), want)
		}
		for i := range min(n, 50) {
			turned := append(slices.Clone(want[i:]), want[:i]...)
			expectSort(t, turned, want)
		}
	}
}

// P20.2: lists of candidates of which none precedes another remain as they are.
func TestSortOfEquals(t *testing.T) {
	for _, n := range lengths() {
		for _, base := range []candidate.Candidate{{}, temporal(0, 9, ""), proper(5, 1, ""), of(least, most, least, "")} {
			var l []candidate.Candidate
			for i := range n {
				base.ID = strconv.Itoa(n - i*7)
				l = append(l, base)
			}
			expectSort(t, l, l)
			expectSort(t, backward(l), backward(l))
		}
	}
}

// P20.2: lists of candidates in no apparent order, by the definition: many and few
// of them different, all of the same rank, or of the same kind or index.
func TestSortByDefinition(t *testing.T) {
	for _, n := range lengths() {
		for _, limits := range [][3]int{{9, 2, 50}, {1, 2, 50}, {9, 1, 50}, {9, 2, 1}, {1, 1, 50}, {1, 2, 1}, {9, 1, 1}, {2, 2, 2}, {1000, 1000, 1000}} {
			l := mixed(n, limits[0], limits[1], limits[2])
			expectSort(t, l, sorted(l))
			expectSort(t, backward(l), sorted(backward(l)))
		}
	}
}

// P20.2: the candidates of Sort are those of its argument, and in their order
// already: sorting them again changes nothing.
func TestSortAgain(t *testing.T) {
	for _, n := range lengths() {
		l := mixed(n, 5, 3, 4)
		once := precedence.Sort(l)
		expectSort(t, once, once)
		count := map[candidate.Candidate]int{}
		for i := range l {
			count[l[i]]++
			count[once[i]]--
		}
		for x, k := range count {
			if k != 0 {
				t.Errorf("%v is missing, or there are too many of it, in the order of %d candidates", x, n)
			}
		}
	}
}

// P20.2 and P20.3: a very long list, by its neighbours.
func TestLongList(t *testing.T) {
	l := mixed(200_000, 9, 2, 100)
	for i := range l {
		l[i].ID += "-" + strconv.Itoa(l[i].Rank)
	}
	place := map[string]int{}
	for i, x := range l {
		place[x.ID] = i
	}
	got := precedence.Sort(l)
	if len(got) != len(l) {
		t.Fatalf("Sort returns %d of %d candidates", len(got), len(l))
	}
	for i := 1; i < len(got); i++ {
		a, b := got[i-1], got[i]
		if precedes(b, a) || !precedes(a, b) && place[a.ID] >= place[b.ID] {
			t.Fatalf("%v before %v", a, b)
		}
	}
	expectFirst(t, l, got[0])
}
