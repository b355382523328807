package transfer_test

import (
	"math"
	"testing"

	"computus/transfer"
)

// P22.2: days to which a feast is moved, and days to which none is, also those from
// which one is, and negative ones.
func TestTaken(t *testing.T) {
	l := moves(move(7, 1, 2), move(8, 2, 4), move(0, 3, 9), move(-5, 3, 10))
	for _, m := range l {
		expectTaken(t, l, m.To, m)
	}
	for _, day := range list(math.MinInt, -10, -5, -2, -1, 0, 1, 3, 5, 7, 8, 11, 366, math.MaxInt) {
		expectNotTaken(t, l, day)
	}
}

// P22.2: of no moves at all, no day is taken.
func TestTakenOfNoMoves(t *testing.T) {
	for _, l := range [][]transfer.Move{nil, {}, moves(move(1, 2, 3))[:0]} {
		for _, day := range list(math.MinInt, -1, 0, 1, 2, 3, math.MaxInt) {
			expectNotTaken(t, l, day)
		}
	}
}

// P22.2: of several moves to the same day, the first one counts.
func TestTakenByTheFirst(t *testing.T) {
	l := moves(move(3, 5, 6), move(2, 4, 6), move(9, 1, 2), move(1, 0, 6), move(8, 0, 2))
	expectTaken(t, l, 6, l[0])
	expectTaken(t, l[1:], 6, l[1])
	expectTaken(t, l[2:], 6, l[3])
	expectTaken(t, l, 2, l[2])
	expectTaken(t, l[3:], 2, l[4])
	expectNotTaken(t, l[4:], 6)
	expectNotTaken(t, l[:2], 2)
}

// P22.2: the moves may be any ones, also those that Assign never returns.
func TestTakenOfAnyMoves(t *testing.T) {
	for _, l := range [][]transfer.Move{
		moves(move(0, 0, 0)),
		moves(move(1, 5, -1), move(2, 6, -1)),
		moves(move(1, 5, 4), move(2, 4, 5)),
		moves(move(math.MaxInt, math.MinInt, math.MaxInt), move(math.MinInt, math.MaxInt, math.MinInt)),
	} {
		expectTaken(t, l, l[0].To, l[0])
		expectNotTaken(t, l, 77)
		expectNotTaken(t, l, -77)
	}
	expectNotTaken(t, moves(move(1, 5, -1)), 0)
	expectNotTaken(t, moves(move(1, 5, -1)), 1)
}
