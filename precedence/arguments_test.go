package precedence_test

import (
	"slices"
	"testing"

	"computus/candidate"
	"computus/precedence"
)

// junk is what the caller writes into results.
func junk() candidate.Candidate {
	return of(-9, 9, -9, "junk")
}

// spoil writes junk into a list and into its unused capacity.
func spoil(l []candidate.Candidate) {
	l = l[:cap(l)]
	for i := range l {
		l[i] = junk()
	}
}

// someLists lists lists of all lengths: in order, in reverse order and shuffled.
func someLists() [][]candidate.Candidate {
	var l [][]candidate.Candidate
	for _, n := range lengths() {
		l = append(l, rising(n), backward(rising(n)), shuffled(rising(n), 5), mixed(n, 3, 2, 4), mixed(n, 1, 1, 1))
	}
	return l
}

// P20.5: arguments are not modified, neither in their length nor in their unused
// capacity nor before their beginning.
func TestArgumentsAreNotModified(t *testing.T) {
	for _, l := range someLists() {
		n := len(l)
		whole := append(append(mixed(7, 9, 2, 9), l...), mixed(300, 9, 2, 9)...)
		before := slices.Clone(whole)
		part := whole[7 : 7+n]
		precedence.Sort(part)
		precedence.First(part)
		if !slices.Equal(whole, before) || !slices.Equal(part, l) {
			t.Errorf("a list of %d candidates, or what is next to it, has been modified", n)
		}
		precedence.Sort(part[:n:n])
		precedence.First(part[:n:n])
		if !slices.Equal(whole, before) {
			t.Errorf("a list of %d candidates has been modified", n)
		}
	}
}

// P20.5: the candidates that Sort returns are new memory, whatever the caller does
// with them: its argument and the results of other calls stay the same.
func TestResultsAreNewlyAllocated(t *testing.T) {
	for _, l := range someLists() {
		before, want := slices.Clone(l), sorted(l)
		first, second := precedence.Sort(l), precedence.Sort(l)
		spoil(first)
		_ = append(first[:0], junk(), junk())
		if !slices.Equal(l, before) {
			t.Errorf("the list of %d candidates shares memory with the result", len(l))
		}
		if !slices.Equal(second, want) {
			t.Errorf("the results of two calls with %d candidates share memory", len(l))
		}
		expectSort(t, l, want)
		if len(l) > 0 {
			expectFirst(t, l, want[0])
		}
	}
}

// P20.5: the result of an empty list with unused capacity does not share it.
func TestResultOfNothingIsNewlyAllocated(t *testing.T) {
	l := list(proper(0, 3, "a"), proper(1, 2, "b"))
	for _, empty := range [][]candidate.Candidate{l[:0], l[1:1], l[2:]} {
		got := precedence.Sort(empty)
		spoil(got)
		_ = append(got, junk(), junk())
		if !slices.Equal(l, list(proper(0, 3, "a"), proper(1, 2, "b"))) {
			t.Errorf("the unused capacity has been modified: %v", l)
		}
	}
}

// P20.5: the results do not change with the list of the call.
func TestResultsDoNotChangeWithTheArguments(t *testing.T) {
	for _, l := range someLists() {
		want := sorted(l)
		got := precedence.Sort(l)
		first, _ := precedence.First(l)
		spoil(l)
		if !slices.Equal(got, want) || len(want) > 0 && first != want[0] {
			t.Errorf("the results of %d candidates have been modified", len(want))
		}
	}
}

// P20.1, P20.2 and P20.3: results do not depend on earlier calls.
func TestResultsOfCallsInTurn(t *testing.T) {
	a, b, c := temporal(0, 4, "season"), proper(1, 4, "feast"), proper(2, 3, "greater-feast")
	for range 3 {
		expectSort(t, list(a, b, c), list(c, a, b))
		expectSort(t, nil, nil)
		expectFirst(t, list(b, a), a)
		expectSort(t, list(b, a), list(a, b))
		if got, ok := precedence.First(nil); ok || got != (candidate.Candidate{}) {
			t.Errorf("First(nil) = %v, %v", got, ok)
		}
		expectPrecedes(t, c, b)
		expectFirst(t, list(b), b)
		l := list(a, b, c)
		expectFirst(t, l, c)
		l[2] = junk()
		expectFirst(t, l, junk())
		expectSort(t, l, list(junk(), a, b))
	}
}
