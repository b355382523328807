package transfer_test

import (
	"math"
	"slices"
	"testing"

	"computus/api"
	"computus/transfer"
)

// days returns a window's days from a text in which + is a free day, and - is one
// that is not.
func days(text string) []bool {
	l := make([]bool, len(text))
	for i := range l {
		l[i] = text[i] == '+'
	}
	return l
}

// feasts returns the impeded feasts of a window of n days, of which only those of
// on have some.
func feasts(n int, on map[int][]int) [][]int {
	l := make([][]int, n)
	for day, f := range on {
		l[day] = f
	}
	return l
}

func list(l ...int) []int {
	return l
}

func moves(l ...transfer.Move) []transfer.Move {
	return l
}

// move returns the move of a feast.
func move(feast, from, to int) transfer.Move {
	return transfer.Move{Feast: feast, From: from, To: to}
}

// expectAssign tests the result of Assign.
func expectAssign(t *testing.T, free []bool, impeded [][]int, want []transfer.Move) {
	t.Helper()
	got, errno := transfer.Assign(free, impeded)
	if errno != api.OK {
		t.Errorf("Assign of %v, %v: error %v, want %v", shown(free), shown(impeded), errno, shown(want))
	} else if !slices.Equal(got, want) {
		t.Errorf("Assign of %v, %v = %v, want %v", shown(free), shown(impeded), shown(got), shown(want))
	}
}

// expectError tests that Assign returns an error and no moves, and that Room is 0.
func expectError(t *testing.T, free []bool, impeded [][]int, want api.Errno) {
	t.Helper()
	got, errno := transfer.Assign(free, impeded)
	if errno != want || got != nil {
		t.Errorf("Assign of %v, %v = %v, error %v, want error %v and nil", shown(free), shown(impeded), shown(got), errno, want)
	}
	expectRoom(t, free, impeded, 0)
}

// expectRoom tests the result of Room.
func expectRoom(t *testing.T, free []bool, impeded [][]int, want int) {
	t.Helper()
	if got := transfer.Room(free, impeded); got != want {
		t.Errorf("Room of %v, %v = %d, want %d", shown(free), shown(impeded), got, want)
	}
}

// expectTaken tests the result of Taken for a day to which a feast is moved.
func expectTaken(t *testing.T, l []transfer.Move, day int, want transfer.Move) {
	t.Helper()
	if got, ok := transfer.Taken(l, day); got != want || !ok {
		t.Errorf("Taken of %v, %d = %v, %v, want %v", shown(l), day, got, ok, want)
	}
}

// expectNotTaken tests the result of Taken for a day to which no feast is moved.
func expectNotTaken(t *testing.T, l []transfer.Move, day int) {
	t.Helper()
	if got, ok := transfer.Taken(l, day); got != (transfer.Move{}) || ok {
		t.Errorf("Taken of %v, %d = %v, %v, want none", shown(l), day, got, ok)
	}
}

// shown returns the beginning of a list, so that messages are not too long.
func shown[T any](l []T) []T {
	return l[:min(len(l), 20)]
}

// P22.1: the example of the chapter.
func TestExample(t *testing.T) {
	free := days("--+-+")
	impeded := feasts(5, map[int][]int{1: {7}, 2: {8}})
	expectAssign(t, free, impeded, moves(move(7, 1, 2), move(8, 2, 4)))
	expectRoom(t, free, impeded, 0)
}

// P22.1: known windows.
func TestKnownWindows(t *testing.T) {
	for _, x := range []struct {
		name string
		days string
		on   map[int][]int
		want []transfer.Move
	}{
		{"no days", "", nil, nil},
		{"one day, free", "+", nil, nil},
		{"one day, not free", "-", nil, nil},
		{"no impeded feast", "+-++-", nil, nil},
		{"lists without feasts", "+-+", map[int][]int{0: {}, 1: {}, 2: {}}, nil},
		{"the next day", "-++", map[int][]int{0: {5}}, moves(move(5, 0, 1))},
		{"the own day is free", "+++", map[int][]int{0: {5}}, moves(move(5, 0, 1))},
		{"the own day alone and the last one are free", "-+--+", map[int][]int{1: {5}}, moves(move(5, 1, 4))},
		{"the last day", "+++---+", map[int][]int{2: {5}}, moves(move(5, 2, 6))},
		{"from the last day but one", "+++", map[int][]int{1: {5}}, moves(move(5, 1, 2))},
		{"two of the same day", "-+++", map[int][]int{0: {5, 6}}, moves(move(5, 0, 1), move(6, 0, 2))},
		{"two of the same day, in the other order", "-+++", map[int][]int{0: {6, 5}}, moves(move(6, 0, 1), move(5, 0, 2))},
		{"three of the same day", "-+-+-+-+", map[int][]int{1: {9, 1, 5}}, moves(move(9, 1, 3), move(1, 1, 5), move(5, 1, 7))},
		{"the next day is taken", "--+++", map[int][]int{0: {5}, 1: {6}}, moves(move(5, 0, 2), move(6, 1, 3))},
		{"the next day is taken, the last one is free", "--+--+", map[int][]int{0: {5}, 1: {6}}, moves(move(5, 0, 2), move(6, 1, 5))},
		{"the earlier one beyond the later day", "---++", map[int][]int{0: {5}, 2: {6}}, moves(move(5, 0, 3), move(6, 2, 4))},
		{"onto the day of the later one", "--++", map[int][]int{0: {5}, 2: {6}}, moves(move(5, 0, 2), move(6, 2, 3))},
		{"before the day of the later one", "-+-+", map[int][]int{0: {5}, 2: {6}}, moves(move(5, 0, 1), move(6, 2, 3))},
		{"free days before the later one are left", "-+++-+", map[int][]int{0: {5}, 4: {6}}, moves(move(5, 0, 1), move(6, 4, 5))},
		{"several of several days", "+-+-++-+++", map[int][]int{1: {5, 6}, 2: {7}, 6: {8}}, moves(move(5, 1, 2), move(6, 1, 4), move(7, 2, 5), move(8, 6, 7))},
		{"many of the first day, one of a later one", "-+++++", map[int][]int{0: {1, 2, 3}, 1: {4}}, moves(move(1, 0, 1), move(2, 0, 2), move(3, 0, 3), move(4, 1, 4))},
		{"one of each day", "++++", map[int][]int{0: {3}, 1: {2}, 2: {1}}, moves(move(3, 0, 1), move(2, 1, 2), move(1, 2, 3))},
		{"all days taken", "-++++", map[int][]int{0: {1, 2}, 1: {3}, 3: {4}}, moves(move(1, 0, 1), move(2, 0, 2), move(3, 1, 3), move(4, 3, 4))},
	} {
		free, impeded := days(x.days), feasts(len(x.days), x.on)
		t.Run(x.name, func(t *testing.T) {
			expectAssign(t, free, impeded, x.want)
		})
	}
}

// P22.1: the numbers of feasts may be any ones, also several times.
func TestNumbersOfFeasts(t *testing.T) {
	for _, l := range [][]int{
		{0, 0},
		{3, 3},
		{-1, -2},
		{-2, -1},
		{0, -1},
		{math.MaxInt, math.MinInt},
		{math.MinInt, math.MaxInt},
		{math.MaxInt, math.MaxInt},
		{1 << 40, -1 << 40},
		{1, 2},
	} {
		free := days("-++++")
		expectAssign(t, free, feasts(5, map[int][]int{0: l}), moves(move(l[0], 0, 1), move(l[1], 0, 2)))
		expectAssign(t, free, feasts(5, map[int][]int{0: l[:1], 2: l[1:]}), moves(move(l[0], 0, 1), move(l[1], 2, 3)))
		expectAssign(t, free, feasts(5, map[int][]int{0: l, 1: l}), moves(move(l[0], 0, 1), move(l[1], 0, 2), move(l[0], 1, 3), move(l[1], 1, 4)))
	}
}

// P22.1: with different lengths the error is ErrArg, also where there would be no
// day for some feast.
func TestDifferentLengths(t *testing.T) {
	for i := range 7 {
		for j := range 7 {
			if i == j {
				continue
			}
			for _, day := range []bool{true, false} {
				free := slices.Repeat([]bool{day}, i)
				expectError(t, free, make([][]int, j), api.ErrArg)
				expectError(t, free, slices.Repeat([][]int{{1}}, j), api.ErrArg)
				expectError(t, free, slices.Repeat([][]int{{1, 2, 3}}, j), api.ErrArg)
				if j > 0 {
					expectError(t, free, feasts(j, map[int][]int{0: {1}}), api.ErrArg)
				}
			}
		}
	}
	expectError(t, nil, [][]int{nil}, api.ErrArg)
	expectError(t, days("+"), nil, api.ErrArg)
	expectError(t, make([]bool, 366), make([][]int, 365), api.ErrArg)
	expectError(t, make([]bool, 365), slices.Repeat([][]int{{1}}, 366), api.ErrArg)
}

// P22.1: without a day for some feast, the first or a later one, the error is
// ErrNoFreeDay.
func TestNoFreeDay(t *testing.T) {
	for _, x := range []struct {
		name string
		days string
		on   map[int][]int
	}{
		{"one day, not free", "-", map[int][]int{0: {1}}},
		{"one day, free", "+", map[int][]int{0: {1}}},
		{"no day is free", "-----", map[int][]int{1: {1}}},
		{"earlier days are free", "+++--", map[int][]int{3: {1}}},
		{"the own day is free", "--+--", map[int][]int{2: {1}}},
		{"on the last day", "++++", map[int][]int{3: {1}}},
		{"on the last day, after others", "++++", map[int][]int{0: {1}, 3: {2}}},
		{"two for one day", "-+", map[int][]int{0: {1, 2}}},
		{"two of different days for one day", "--+", map[int][]int{0: {1}, 1: {2}}},
		{"the free day is that of the second one", "--+", map[int][]int{0: {1}, 2: {2}}},
		{"free days before the second one are left", "-+++-", map[int][]int{0: {1}, 3: {2}}},
		{"the last of many", "-+++", map[int][]int{0: {1, 2, 3, 4}}},
		{"the last of many days", "-+++", map[int][]int{0: {1}, 1: {2}, 2: {3, 4}}},
	} {
		free, impeded := days(x.days), feasts(len(x.days), x.on)
		t.Run(x.name, func(t *testing.T) {
			expectError(t, free, impeded, api.ErrNoFreeDay)
		})
	}
}

// P22.1: nil and empty lists are the same.
func TestNilAndEmptyLists(t *testing.T) {
	expectAssign(t, nil, nil, nil)
	expectAssign(t, []bool{}, nil, nil)
	expectAssign(t, nil, [][]int{}, nil)
	expectAssign(t, []bool{}, [][]int{}, nil)
	expectRoom(t, nil, nil, 0)
	expectRoom(t, []bool{}, [][]int{}, 0)
	expectAssign(t, days("-+"), [][]int{nil, {}}, nil)
	expectAssign(t, days("-++"), [][]int{{}, {4}, nil}, moves(move(4, 1, 2)))
}

// P22.1, P22.2 and P22.3: the feasts of the year 2008, when Joseph and the
// Annunciation are both impeded until after the octave of Easter.
func TestFeastsOf2008(t *testing.T) {
	const joseph, annunciation = 0, 1
	const march19, march25, march31 = 31 + 29 + 19 - 1, 31 + 29 + 25 - 1, 31 + 29 + 31 - 1
	free := slices.Repeat([]bool{true}, 366)
	// From Palm Sunday to the Sunday after Easter no day is free.
	for day := march31 - 15; day < march31; day++ {
		free[day] = false
	}
	impeded := feasts(366, map[int][]int{march19: {joseph}, march25: {annunciation}})
	want := moves(move(joseph, march19, march31), move(annunciation, march25, march31+1))
	expectAssign(t, free, impeded, want)
	expectRoom(t, free, impeded, 366-march31-2)
	expectTaken(t, want, march31, want[0])
	expectTaken(t, want, march31+1, want[1])
	expectNotTaken(t, want, march19)
}
