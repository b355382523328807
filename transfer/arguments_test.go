package transfer_test

import (
	"slices"
	"testing"

	"computus/api"
	"computus/transfer"
)

// junk is a number that no feast of these tests has.
const junk = -7777

// within returns a list of the same items within a longer one, and the longer one,
// so that there is something before the list and in its unused capacity.
func within[T any](l []T, item T) (part, whole []T) {
	whole = append([]T{item, item}, l...)
	whole = append(whole, slices.Repeat([]T{item}, 30+len(l))...)
	return whole[2 : 2+len(l)], whole
}

// spoil writes junk into a list of moves and its unused capacity.
func spoil(l []transfer.Move) {
	l = l[:cap(l)]
	for i := range l {
		l[i] = move(junk, junk, junk)
	}
}

// window is a window of one of these tests, with its error.
type window struct {
	free    []bool
	impeded [][]int
	errno   api.Errno
}

// someWindows lists windows with and without moves, with each of the errors, and
// with many feasts.
func someWindows() []window {
	l := []window{
		{nil, nil, api.OK},
		{days("+-+"), feasts(3, nil), api.OK},
		{days("--+-+"), feasts(5, map[int][]int{1: {7}, 2: {8}}), api.OK},
		{days("-+++++"), feasts(6, map[int][]int{0: {1, 2, 3}, 1: {4}}), api.OK},
		{days("-+++++"), feasts(5, map[int][]int{0: {1, 2, 3}}), api.ErrArg},
		{days("-++"), feasts(3, map[int][]int{0: {1, 2, 3}}), api.ErrNoFreeDay},
		{days("--"), feasts(2, map[int][]int{0: {1}}), api.ErrNoFreeDay},
	}
	free, impeded := someWindow(numbers(5), 2000, 2, 9)
	clear(impeded[1500:])
	return append(l, window{free, impeded, api.OK})
}

// expectWindow tests the results for a window.
func expectWindow(t *testing.T, x window, want []transfer.Move, room int) {
	t.Helper()
	if x.errno != api.OK {
		expectError(t, x.free, x.impeded, x.errno)
		return
	}
	expectAssign(t, x.free, x.impeded, want)
	expectRoom(t, x.free, x.impeded, room)
}

// P22.5: neither the days nor the feasts are modified, in their length, before it,
// or in their unused capacity.
func TestWindowsAreNotModified(t *testing.T) {
	for _, x := range someWindows() {
		want, _ := transfer.Assign(x.free, x.impeded)
		room := transfer.Room(x.free, x.impeded)
		for _, day := range []bool{true, false} {
			y := x
			var free []bool
			y.free, free = within(x.free, day)
			y.impeded = make([][]int, len(x.impeded))
			inner := make([][]int, len(x.impeded))
			for i := range x.impeded {
				y.impeded[i], inner[i] = within(x.impeded[i], junk)
			}
			var outer [][]int
			y.impeded, outer = within(y.impeded, list(junk))
			freeBefore, innerBefore, outerBefore := slices.Clone(free), copyOf(inner), copyOf(outer)
			expectWindow(t, y, want, room)
			if !slices.Equal(free, freeBefore) {
				t.Errorf("the days have been modified: %v", shown(x.free))
			}
			if !slices.EqualFunc(inner, innerBefore, slices.Equal) || !slices.EqualFunc(outer, outerBefore, slices.Equal) {
				t.Errorf("the feasts have been modified: %v", shown(x.impeded))
			}
		}
	}
}

// copyOf returns a copy of a list of lists.
func copyOf(l [][]int) [][]int {
	l = slices.Clone(l)
	for i := range l {
		l[i] = slices.Clone(l[i])
	}
	return l
}

// P22.5: a list of moves is not modified, in its length, before it, or in its unused
// capacity, where moves to the day do not count.
func TestMovesAreNotModified(t *testing.T) {
	for _, x := range someWindows() {
		l, _ := transfer.Assign(x.free, x.impeded)
		part, whole := within(l, move(junk, junk, junk))
		before := slices.Clone(whole)
		for day := range x.free {
			want, ok := transfer.Taken(l, day)
			if ok {
				expectTaken(t, part, day, want)
			} else {
				expectNotTaken(t, part, day)
			}
		}
		expectNotTaken(t, part, junk)
		if !slices.Equal(whole, before) {
			t.Errorf("the moves have been modified: %v", shown(l))
		}
	}
}

// P22.5: the moves are new memory, whatever the caller does with those of earlier
// calls, in their length and in their unused capacity.
func TestResultsAreNewlyAllocated(t *testing.T) {
	for _, x := range someWindows() {
		want, _ := byDefinition(x.free, x.impeded)
		room := transfer.Room(x.free, x.impeded)
		first, _ := transfer.Assign(x.free, x.impeded)
		second, _ := transfer.Assign(x.free, x.impeded)
		spoil(first)
		_ = append(first, move(junk, 0, 0))
		if x.errno == api.OK && !slices.Equal(second, want) {
			t.Errorf("%v has been modified: %v", shown(want), shown(second))
		}
		expectWindow(t, x, want, room)
	}
}

// P22.5: the moves do not change with the arguments of the call, nor the arguments
// with the moves.
func TestMovesShareNoMemoryWithTheArguments(t *testing.T) {
	for _, x := range someWindows() {
		y := window{slices.Clone(x.free), copyOf(x.impeded), x.errno}
		l, _ := transfer.Assign(y.free, y.impeded)
		want := slices.Clone(l)
		clear(y.free)
		for _, feasts := range y.impeded {
			clear(feasts)
		}
		clear(y.impeded)
		if !slices.Equal(l, want) {
			t.Errorf("%v has been modified: %v", shown(want), shown(l))
		}
		y = window{slices.Clone(x.free), copyOf(x.impeded), x.errno}
		l, _ = transfer.Assign(y.free, y.impeded)
		spoil(l)
		if !slices.Equal(y.free, x.free) || !slices.EqualFunc(y.impeded, x.impeded, slices.Equal) {
			t.Errorf("the moves share memory with the window %v", shown(x.free))
		}
	}
}

// P22.2 and P22.5: a move that is found does not change with the list.
func TestTakenIsACopy(t *testing.T) {
	l := moves(move(7, 1, 2), move(8, 2, 4))
	got, _ := transfer.Taken(l, 4)
	spoil(l)
	if got != move(8, 2, 4) {
		t.Errorf("the move has been modified: %v", got)
	}
	l = moves(move(7, 1, 2), move(8, 2, 4))
	got, _ = transfer.Taken(l, 4)
	got.Feast, got.To = 1, 1
	expectTaken(t, l, 4, move(8, 2, 4))
}

// P22.1 to P22.3: results do not depend on earlier calls.
func TestResultsOfCallsInTurn(t *testing.T) {
	for range 3 {
		a := feasts(5, map[int][]int{1: {7}, 2: {8}})
		expectAssign(t, days("--+-+"), a, moves(move(7, 1, 2), move(8, 2, 4)))
		expectError(t, days("--+--"), a, api.ErrNoFreeDay)
		expectError(t, days("--+-++"), a, api.ErrArg)
		expectAssign(t, days("+++++"), a, moves(move(7, 1, 2), move(8, 2, 3)))
		expectRoom(t, days("+++++"), a, 1)
		expectRoom(t, days("+++++"), feasts(5, nil), 5)
		expectRoom(t, days("--+-+"), a, 0)
	}
}
