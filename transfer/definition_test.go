package transfer_test

import (
	"slices"
	"testing"

	"computus/api"
	"computus/transfer"
)

// byDefinition returns the moves of a window, with a search of all days for each of
// the feasts; or false if there is no day for some feast.
func byDefinition(free []bool, impeded [][]int) ([]transfer.Move, bool) {
	var l []transfer.Move
	for from := range impeded {
		for _, feast := range impeded[from] {
			to := -1
			for day := range free {
				moved := slices.ContainsFunc(l, func(m transfer.Move) bool { return m.To == day })
				if to < 0 && day > from && free[day] && !moved {
					to = day
				}
			}
			if to < 0 {
				return nil, false
			}
			l = append(l, move(feast, from, to))
		}
	}
	return l, true
}

// roomByDefinition returns the number of free days after the last day with an
// impeded feast that no move takes.
func roomByDefinition(free []bool, impeded [][]int, l []transfer.Move) int {
	n := 0
	for day := range free {
		after := true
		for other := day; other < len(impeded); other++ {
			after = after && len(impeded[other]) == 0
		}
		moved := slices.ContainsFunc(l, func(m transfer.Move) bool { return m.To == day })
		if free[day] && after && !moved {
			n++
		}
	}
	return n
}

// expectDefinition tests the results for a window by the definition.
func expectDefinition(t *testing.T, free []bool, impeded [][]int) {
	t.Helper()
	want, ok := byDefinition(free, impeded)
	if !ok {
		expectError(t, free, impeded, api.ErrNoFreeDay)
		return
	}
	expectAssign(t, free, impeded, want)
	expectRoom(t, free, impeded, roomByDefinition(free, impeded, want))
	for day := -2; day < len(free)+2; day++ {
		i := slices.IndexFunc(want, func(m transfer.Move) bool { return m.To == day })
		if i < 0 {
			expectNotTaken(t, want, day)
		} else {
			expectTaken(t, want, day, want[i])
		}
	}
}

// windows calls a function with each window of n days on each of which there are
// fewer feasts than a number.
func windows(n, below int, visit func(free []bool, impeded [][]int)) {
	free, impeded := make([]bool, n), make([][]int, n)
	var choose func(day, feast int)
	choose = func(day, feast int) {
		if day == n {
			visit(free, impeded)
			return
		}
		for _, free[day] = range []bool{false, true} {
			impeded[day] = nil
			for i := range below {
				choose(day+1, feast+i)
				impeded[day] = append(impeded[day], feast+i)
			}
		}
	}
	choose(0, 10)
}

// P22.1, P22.2 and P22.3: each small window, by the definition.
func TestEachSmallWindow(t *testing.T) {
	for _, x := range []struct{ days, below int }{{0, 1}, {1, 5}, {2, 5}, {3, 4}, {4, 4}, {5, 3}, {6, 2}, {7, 2}} {
		windows(x.days, x.below, func(free []bool, impeded [][]int) {
			expectDefinition(t, free, impeded)
		})
	}
}

// numbers returns a function that returns numbers from 0 to n-1 in no plain order,
// the same ones for each test.
func numbers(seed uint64) func(n int) int {
	return func(n int) int {
		seed = seed*6364136223846793005 + 1442695040888963407
		return int(seed >> 33 % uint64(n))
	}
}

// someWindow returns a window of n days of which about one in freeOne is free, with
// feasts on about one in feastOne.
func someWindow(next func(int) int, n, freeOne, feastOne int) ([]bool, [][]int) {
	free, impeded := make([]bool, n), make([][]int, n)
	for day := range n {
		free[day] = next(freeOne) == 0
		for next(feastOne) == 0 {
			impeded[day] = append(impeded[day], next(1000)-500)
		}
	}
	return free, impeded
}

// P22.1, P22.2 and P22.3: longer windows of all sorts, by the definition.
func TestLongerWindows(t *testing.T) {
	next := numbers(22)
	for range 400 {
		free, impeded := someWindow(next, 8+next(40), 1+next(5), 2+next(15))
		expectDefinition(t, free, impeded)
	}
	for range 10 {
		free, impeded := someWindow(next, 365+next(2), 1+next(3), 8+next(30))
		// The last days are those of the feasts before them only.
		clear(impeded[300:])
		expectDefinition(t, free, impeded)
	}
}

// expectConsequence tests that the moves of a window are those of all feasts in
// order, that no two are to the same day, and that each free day between a feast's
// own day and the one that it is moved to was taken before.
func expectConsequence(t *testing.T, free []bool, impeded [][]int) {
	t.Helper()
	l, errno := transfer.Assign(free, impeded)
	if errno != api.OK {
		t.Errorf("Assign of %d days: error %v", len(free), errno)
		return
	}
	taken := make([]bool, len(free))
	i := 0
	for from := range impeded {
		for _, feast := range impeded[from] {
			if i == len(l) || l[i].Feast != feast || l[i].From != from {
				t.Errorf("move %d of %v is not that of feast %d of day %d", i, shown(l), feast, from)
				return
			}
			to := l[i].To
			if to <= from || to >= len(free) || !free[to] || taken[to] {
				t.Errorf("move %d, %v, is not to a later free day that is not taken", i, l[i])
				return
			}
			for day := from + 1; day < to; day++ {
				if free[day] && !taken[day] {
					t.Errorf("move %d, %v, is beyond day %d, which is left free", i, l[i], day)
					return
				}
			}
			taken[to] = true
			i++
		}
	}
	if i != len(l) {
		t.Errorf("there are %d moves of %d feasts", len(l), i)
	}
}

// P22.4: no two feasts are moved to the same day, and none beyond a free day that is
// left for a later one.
func TestConsequence(t *testing.T) {
	for _, x := range []struct{ days, below int }{{1, 2}, {3, 3}, {5, 3}, {8, 2}} {
		windows(x.days, x.below, func(free []bool, impeded [][]int) {
			if _, ok := byDefinition(free, impeded); ok {
				expectConsequence(t, free, impeded)
			}
		})
	}
	next := numbers(4)
	for range 100 {
		free, impeded := someWindow(next, 2000, 1+next(3), 8+next(20))
		clear(impeded[1500:])
		expectConsequence(t, free, impeded)
	}
}

// P22.1 and P22.3: all feasts on the first day of a window of many days, of which
// all others or every third one is free, and just as many or one fewer.
func TestManyFeastsOfOneDay(t *testing.T) {
	for _, step := range []int{1, 3} {
		const n = 60000
		free, impeded := make([]bool, 1+n*step), make([][]int, 1+n*step)
		var want []transfer.Move
		for i := range n {
			free[(i+1)*step] = true
			impeded[0] = append(impeded[0], n-i)
			want = append(want, move(n-i, 0, (i+1)*step))
		}
		expectAssign(t, free, impeded, want)
		expectRoom(t, free, impeded, 0)
		impeded[0] = append(impeded[0], 5)
		expectError(t, free, impeded, api.ErrNoFreeDay)
		impeded[0] = impeded[0][:n-1]
		expectAssign(t, free, impeded, want[:n-1])
		expectRoom(t, free, impeded, 1)
	}
}

// P22.1 and P22.3: a feast on each day of the first half of a window of many days,
// of which those of the second half are free.
func TestManyFeastsOfManyDays(t *testing.T) {
	const n = 60000
	free, impeded := make([]bool, 2*n), make([][]int, 2*n)
	var want []transfer.Move
	for day := range n {
		free[n+day] = true
		impeded[day] = list(-day)
		want = append(want, move(-day, day, n+day))
	}
	expectAssign(t, free, impeded, want)
	expectRoom(t, free, impeded, 0)
	expectTaken(t, want, 2*n-1, want[n-1])
	expectNotTaken(t, want, n-1)
	impeded[2*n-2] = list(1)
	expectError(t, free, impeded, api.ErrNoFreeDay)
	impeded[2*n-2], impeded[n-1] = nil, nil
	expectAssign(t, free, impeded, want[:n-1])
	expectRoom(t, free, impeded, 1)
}

// P22.1: each feast is moved from a free day to the next one, which is that of the
// next feast.
func TestChainOfFeasts(t *testing.T) {
	const n = 60000
	free, impeded := slices.Repeat([]bool{true}, n+1), make([][]int, n+1)
	var want []transfer.Move
	for day := range n {
		impeded[day] = list(day)
		want = append(want, move(day, day, day+1))
	}
	expectAssign(t, free, impeded, want)
	expectConsequence(t, free, impeded)
	expectRoom(t, free, impeded, 0)
}
