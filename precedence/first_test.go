package precedence_test

import (
	"strconv"
	"testing"

	"computus/candidate"
	"computus/precedence"
)

// expectFirst tests that First returns a candidate and true.
func expectFirst(t *testing.T, l []candidate.Candidate, want candidate.Candidate) {
	t.Helper()
	if got, ok := precedence.First(l); got != want || !ok {
		t.Errorf("First of the %d candidates %v... = %v, %v, want %v, true", len(l), beginning(l), got, ok, want)
	}
}

// P20.3: nil and empty lists, whatever is in their unused capacity.
func TestFirstOfNothing(t *testing.T) {
	some := list(proper(0, 3, "a"), proper(1, 2, "b"))
	for _, l := range [][]candidate.Candidate{nil, {}, some[:0], some[2:], make([]candidate.Candidate, 0, 5)} {
		if got, ok := precedence.First(l); got != (candidate.Candidate{}) || ok {
			t.Errorf("First(%v) = %v, %v, want the zero Candidate and false", l, got, ok)
		}
	}
}

// P20.3: the unused capacity is no part of the list.
func TestFirstInUnusedCapacity(t *testing.T) {
	l := list(proper(0, 3, "a"), proper(1, 4, "b"), proper(2, 1, "c"))
	expectFirst(t, l[:2], proper(0, 3, "a"))
	expectFirst(t, l[1:2], proper(1, 4, "b"))
	expectFirst(t, l, proper(2, 1, "c"))
}

// P20.3: lists of one and two candidates, among them the zero Candidate, with
// which the result is true as well.
func TestFirstOfOneAndTwo(t *testing.T) {
	expectFirst(t, list(candidate.Candidate{}), candidate.Candidate{})
	expectFirst(t, list(proper(0, 1, "a"), candidate.Candidate{}), candidate.Candidate{})
	for _, a := range few() {
		expectFirst(t, list(a), a)
		for _, b := range few() {
			want := a
			if precedes(b, a) {
				want = b
			}
			expectFirst(t, list(a, b), want)
		}
	}
}

// P20.3: known lists, in which the rank, the kind or the index decides, or
// nothing does.
func TestFirstOfKnownLists(t *testing.T) {
	expectFirst(t, list(temporal(0, 6, "time"), proper(8, 3, "john"), proper(9, 3, "heart")), proper(8, 3, "john"))
	expectFirst(t, list(proper(9, 3, "heart"), proper(8, 3, "john"), temporal(0, 6, "time")), proper(8, 3, "john"))
	expectFirst(t, list(proper(0, 3, "john"), temporal(9, 3, "time")), temporal(9, 3, "time"))
	expectFirst(t, list(proper(0, 2, "z"), proper(0, 2, "a"), proper(0, 2, "")), proper(0, 2, "z"))
	expectFirst(t, list(proper(1, 2, "a"), proper(0, 2, "z"), proper(0, 2, "b"), proper(1, 2, "c")), proper(0, 2, "z"))
	expectFirst(t, list(of(1, 1, 1, "a"), of(0, 3, 3, "b"), of(-1, 9, 9, "c"), of(0, 0, 0, "d")), of(-1, 9, 9, "c"))
	expectFirst(t, list(of(most, least, least, "a"), of(least, most, most, "b"), of(least+1, 0, 0, "c")), of(least, most, most, "b"))
	expectFirst(t, list(of(1, 3, 0, "a"), of(1, 0, 5, "b"), of(1, -1, 9, "c"), of(1, 1, 0, "d")), of(1, -1, 9, "c"))
	expectFirst(t, list(of(most, most, most, "a"), of(most, most, most, "b")), of(most, most, most, "a"))
}

// P20.3: the candidate that precedes the others at each index of a list.
func TestFirstAtEachIndex(t *testing.T) {
	for _, n := range []int{1, 2, 3, 12, 13, 21, 101} {
		for _, least := range []candidate.Candidate{of(2, 9, 9, "least"), of(3, 0, 9, "least"), of(3, 1, -1, "least")} {
			for i := range n {
				l := mixed(n, 5, 3, 4)
				for j := range l {
					l[j].Rank += 3
					l[j].Kind++
				}
				l[i] = least
				expectFirst(t, l, least)
			}
		}
	}
}

// P20.3: the first of several that no other one precedes, at each two indexes of a
// list.
func TestFirstOfSeveral(t *testing.T) {
	for _, n := range []int{2, 3, 5, 13, 25} {
		for i := range n {
			for j := range i {
				l := mixed(n, 5, 3, 4)
				for k := range l {
					l[k].Rank++
				}
				l[i], l[j] = of(0, 2, 1, "a-later"), of(0, 2, 1, "b-first")
				expectFirst(t, l, of(0, 2, 1, "b-first"))
			}
		}
	}
}

// P20.3: in lists of candidates of which none precedes another, the first one.
func TestFirstOfEquals(t *testing.T) {
	for _, n := range lengths() {
		var l []candidate.Candidate
		for i := range n {
			l = append(l, proper(4, 2, strconv.Itoa(n-i)))
		}
		if n > 0 {
			expectFirst(t, l, proper(4, 2, strconv.Itoa(n)))
			expectFirst(t, backward(l), proper(4, 2, "1"))
		}
	}
}

// firstOf is the definition: the first candidate of a list, which is not empty,
// that no other one precedes.
func firstOf(l []candidate.Candidate) candidate.Candidate {
	for i, x := range l {
		preceded := false
		for j, y := range l {
			preceded = preceded || j != i && precedes(y, x)
		}
		if !preceded {
			return x
		}
	}
	return candidate.Candidate{}
}

// P20.3: lists in order, in reverse order and shuffled, by the definition; and the
// same as the first one in the order of precedence.
func TestFirstByDefinition(t *testing.T) {
	for _, n := range lengths() {
		for _, l := range [][]candidate.Candidate{rising(n), mixed(n, 9, 2, 50), mixed(n, 1, 2, 50), mixed(n, 1, 1, 50), mixed(n, 1, 2, 1), mixed(n, 3, 1, 1), mixed(n, 2, 2, 2)} {
			for _, x := range [][]candidate.Candidate{l, backward(l), shuffled(l, 1), shuffled(l, 2)} {
				if n > 0 {
					expectFirst(t, x, firstOf(x))
					expectFirst(t, x, precedence.Sort(x)[0])
				}
			}
		}
	}
}
