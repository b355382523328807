package anchor_test

import (
	"math"
	"testing"

	"computus/anchor"
	"computus/api"
)

const (
	least = math.MinInt
	most  = math.MaxInt
)

func fixed(month, day int) api.Anchor {
	return api.Anchor{Kind: api.Fixed, Month: month, Day: day}
}

func paschal(offset int) api.Anchor {
	return api.Anchor{Kind: api.Paschal, Offset: offset}
}

func nth(month, day, weekday, count int) api.Anchor {
	return api.Anchor{Kind: api.Nth, Month: month, Day: day, Weekday: weekday, Count: count}
}

// wellFormed lists an anchor of each kind and form, none of whose own fields is 0.
func wellFormed() []api.Anchor {
	return []api.Anchor{fixed(6, 24), paschal(49), paschal(-46), nth(11, 27, api.Wednesday, 2), nth(5, 31, api.Monday, -3)}
}

// far lists integers that are in the bounds of no field.
func far() []int {
	return []int{400, -400, 1 << 16, 1<<16 + 1, 1 << 32, 1<<32 + 1, 1<<32 + 2, 1<<32 + 3, -1 << 32, -1<<32 + 1, -1<<32 - 1, 1 << 62, -1 << 62, most, most - 1, most - 7, least, least + 1, least + 2, least + 3, least + 8}
}

// nearAndFar lists all integers from first to last, and those of far.
func nearAndFar(first, last int) []int {
	l := far()
	for x := first; x <= last; x++ {
		l = append(l, x)
	}
	return l
}

// ofCommonYear returns the day of a common year, which is 1 for 1 January, or 0
// if a common year has no such day.
func ofCommonYear(month, day int) int {
	n := 0
	for m, length := range []int{31, 28, 31, 30, 31, 30, 31, 31, 30, 31, 30, 31} {
		if m+1 == month && day >= 1 && day <= length {
			return n + day
		}
		n += length
	}
	return 0
}

// isWellFormed writes the definition of the chapter out.
func isWellFormed(a api.Anchor) bool {
	n := ofCommonYear(a.Month, a.Day)
	switch a.Kind {
	case 1:
		return n > 0 && a.Offset == 0 && a.Weekday == 0 && a.Count == 0
	case 2:
		return a.Offset >= -80 && a.Offset <= 250 && a.Month == 0 && a.Day == 0 && a.Weekday == 0 && a.Count == 0
	case 3:
		if n == 0 || a.Weekday < 0 || a.Weekday > 6 || a.Offset != 0 {
			return false
		}
		return a.Count >= 1 && a.Count <= 8 && n+6+7*(a.Count-1) <= 365 ||
			a.Count >= -8 && a.Count <= -1 && n-6-7*(-a.Count-1) >= 1
	}
	return false
}

// expectCheck tests whether an anchor is well-formed.
func expectCheck(t *testing.T, a api.Anchor, want bool) {
	t.Helper()
	if got := anchor.Check(a); got != want {
		t.Errorf("Check(%+v) = %v, want %v", a, got, want)
	}
}

// P16.1: the examples of the chapter, and anchors of each kind.
func TestCheckOfKnownAnchors(t *testing.T) {
	for _, a := range wellFormed() {
		expectCheck(t, a, true)
	}
	for _, a := range []api.Anchor{
		nth(11, 27, api.Sunday, 1), paschal(-46), paschal(0), fixed(1, 1), fixed(12, 31), fixed(2, 28),
		nth(1, 1, api.Sunday, 1), nth(12, 31, api.Saturday, -1), nth(2, 28, api.Thursday, 1), nth(2, 28, api.Thursday, -1),
	} {
		expectCheck(t, a, true)
	}
}

// P16.1: there are no other kinds, whatever the other fields are.
func TestCheckOfKinds(t *testing.T) {
	expectCheck(t, api.Anchor{}, false)
	for _, a := range wellFormed() {
		for _, kind := range append(far(), 0, 4, 5, -1, -2, -3, -4) {
			b := a
			b.Kind = kind
			expectCheck(t, b, false)
		}
		for _, kind := range []int{api.Fixed, api.Paschal, api.Nth} {
			b := a
			b.Kind = kind
			expectCheck(t, b, kind == a.Kind)
		}
	}
}

// P16.1: fields that a kind does not use are 0.
func TestCheckOfFieldsThatMustBeZero(t *testing.T) {
	for _, x := range append(far(), 1, -1, 2, -2, 3, 6, 7, 28) {
		for _, b := range []api.Anchor{
			{Kind: api.Fixed, Month: 6, Day: 24, Offset: x},
			{Kind: api.Fixed, Month: 6, Day: 24, Weekday: x},
			{Kind: api.Fixed, Month: 6, Day: 24, Count: x},
			{Kind: api.Paschal, Offset: 49, Month: x},
			{Kind: api.Paschal, Offset: 49, Day: x},
			{Kind: api.Paschal, Offset: 49, Month: 6, Day: x},
			{Kind: api.Paschal, Offset: 49, Weekday: x},
			{Kind: api.Paschal, Offset: 49, Count: x},
			{Kind: api.Paschal, Month: x},
			{Kind: api.Nth, Month: 6, Day: 24, Weekday: api.Tuesday, Count: 1, Offset: x},
			{Kind: api.Nth, Month: 6, Day: 24, Weekday: api.Tuesday, Count: -1, Offset: x},
			{Kind: api.Nth, Month: 6, Day: 24, Weekday: api.Sunday, Count: 1, Offset: x},
		} {
			expectCheck(t, b, false)
		}
	}
}

// P16.1: a fixed anchor has a day of a common year, so that 29 February is not
// one of them.
func TestCheckOfFixedDays(t *testing.T) {
	for _, x := range []struct {
		month, day int
		want       bool
	}{
		{1, 1, true}, {1, 0, false}, {1, -1, false}, {1, 31, true}, {1, 32, false},
		{2, 1, true}, {2, 28, true}, {2, 29, false}, {2, 30, false}, {2, 0, false},
		{3, 31, true}, {3, 32, false}, {4, 30, true}, {4, 31, false}, {5, 31, true}, {5, 32, false}, {6, 30, true}, {6, 31, false},
		{7, 31, true}, {7, 32, false}, {8, 31, true}, {8, 32, false}, {9, 30, true}, {9, 31, false}, {10, 31, true}, {10, 32, false},
		{11, 30, true}, {11, 31, false}, {12, 31, true}, {12, 32, false}, {12, 0, false},
		{0, 1, false}, {0, 0, false}, {0, 31, false}, {13, 1, false}, {13, 31, false}, {-1, 1, false}, {13, 0, false},
	} {
		expectCheck(t, fixed(x.month, x.day), x.want)
		expectCheck(t, nth(x.month, x.day, api.Friday, 1), x.want && x.month < 12)
		expectCheck(t, nth(x.month, x.day, api.Friday, -1), x.want && x.month > 1 || x.month == 1 && x.day == 31)
	}
	for _, month := range nearAndFar(-2, 14) {
		for _, day := range nearAndFar(-2, 34) {
			expectCheck(t, fixed(month, day), ofCommonYear(month, day) > 0)
		}
	}
}

// P16.1: the offset of a paschal anchor is from -80 to 250.
func TestCheckOfOffsets(t *testing.T) {
	for _, x := range []struct {
		offset int
		want   bool
	}{
		{-80, true}, {-81, false}, {-79, true}, {-82, false}, {-100, false}, {-250, false}, {-1, true}, {0, true}, {1, true},
		{80, true}, {81, true}, {249, true}, {250, true}, {251, false}, {252, false}, {365, false},
	} {
		expectCheck(t, paschal(x.offset), x.want)
	}
	for _, offset := range nearAndFar(-399, 399) {
		expectCheck(t, paschal(offset), offset >= -80 && offset <= 250)
	}
}

// P16.1: the weekday of an anchor of the kind Nth is from 0 to 6.
func TestCheckOfWeekdays(t *testing.T) {
	for _, count := range []int{1, 8, -1, -8} {
		for _, weekday := range nearAndFar(-8, 14) {
			expectCheck(t, nth(7, 4, weekday, count), weekday >= 0 && weekday <= 6)
		}
	}
}

// P16.1: the count of an anchor of the kind Nth is from 1 to 8 or from -8 to -1.
func TestCheckOfCounts(t *testing.T) {
	for _, x := range []struct {
		count int
		want  bool
	}{
		{1, true}, {2, true}, {7, true}, {8, true}, {9, false}, {10, false}, {0, false},
		{-1, true}, {-2, true}, {-7, true}, {-8, true}, {-9, false}, {-10, false},
	} {
		expectCheck(t, nth(7, 4, api.Saturday, x.count), x.want)
	}
	for _, count := range nearAndFar(-60, 60) {
		expectCheck(t, nth(7, 4, api.Sunday, count), count >= -8 && count <= 8 && count != 0)
	}
}

// P16.1: the last month and day of each positive count, the first ones of each
// negative count, and the days next to them.
func TestCheckOfBoundsOfCounts(t *testing.T) {
	for _, x := range []struct {
		month, day, count int
	}{
		{12, 25, 1}, {12, 18, 2}, {12, 11, 3}, {12, 4, 4}, {11, 27, 5}, {11, 20, 6}, {11, 13, 7}, {11, 6, 8},
	} {
		for weekday := api.Sunday; weekday <= api.Saturday; weekday++ {
			expectCheck(t, nth(x.month, x.day-1, weekday, x.count), true)
			expectCheck(t, nth(x.month, x.day, weekday, x.count), true)
			expectCheck(t, nth(x.month, x.day+1, weekday, x.count), false)
			expectCheck(t, nth(12, 31, weekday, x.count), false)
			expectCheck(t, nth(1, 1, weekday, x.count), true)
		}
	}
	for _, x := range []struct {
		month, day, count int
	}{
		{1, 7, -1}, {1, 14, -2}, {1, 21, -3}, {1, 28, -4}, {2, 4, -5}, {2, 11, -6}, {2, 18, -7}, {2, 25, -8},
	} {
		for weekday := api.Sunday; weekday <= api.Saturday; weekday++ {
			expectCheck(t, nth(x.month, x.day-1, weekday, x.count), false)
			expectCheck(t, nth(x.month, x.day, weekday, x.count), true)
			expectCheck(t, nth(x.month, x.day+1, weekday, x.count), true)
			expectCheck(t, nth(1, 1, weekday, x.count), false)
			expectCheck(t, nth(12, 31, weekday, x.count), true)
		}
	}
}

// P16.1: every month and day with every weekday and count.
func TestCheckOfNthEverywhere(t *testing.T) {
	for month := 0; month <= 13; month++ {
		for day := 0; day <= 32; day++ {
			for weekday := -1; weekday <= 7; weekday++ {
				for count := -10; count <= 10; count++ {
					a := nth(month, day, weekday, count)
					expectCheck(t, a, isWellFormed(a))
				}
			}
		}
	}
}

// P16.1: fields of all kinds with all combinations of a few values.
func TestCheckOfCombinations(t *testing.T) {
	for _, kind := range []int{least, -1, 0, 1, 2, 3, 4, 1<<32 + 1, most} {
		for _, month := range []int{least, -1, 0, 1, 2, 12, 13, most} {
			for _, day := range []int{least, -1, 0, 1, 25, 26, 29, 31, most} {
				for _, offset := range []int{least, -81, -80, -1, 0, 1, 250, 251, most} {
					for _, weekday := range []int{least, -1, 0, 1, 6, 7, most} {
						for _, count := range []int{least, -9, -8, -1, 0, 1, 8, 9, most} {
							a := api.Anchor{Kind: kind, Month: month, Day: day, Offset: offset, Weekday: weekday, Count: count}
							expectCheck(t, a, isWellFormed(a))
						}
					}
				}
			}
		}
	}
}
