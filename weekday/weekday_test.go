package weekday_test

import (
	"math"
	"math/big"
	"strings"
	"testing"

	"computus/api"
	"computus/gregorian"
	"computus/weekday"
)

const (
	least = math.MinInt
	most  = math.MaxInt
	// limit is the greatest day number of the chapter; the least one is -limit.
	limit = 1 << 40
)

// number is what OnOrAfter, OnOrBefore and Nth return.
type number struct {
	n     int
	errno api.Errno
}

func pack(n int, errno api.Errno) number { return number{n, errno} }

func found(n int) number { return number{n, api.OK} }

func failed(errno api.Errno) number { return number{0, errno} }

// names lists the names of the days of the week in their order.
func names() []string {
	return []string{"sunday", "monday", "tuesday", "wednesday", "thursday", "friday", "saturday"}
}

// exactDay returns the day of the week by exact arithmetic: big's Mod yields
// the remainder that is not negative.
func exactDay(n int) int {
	return int(new(big.Int).Mod(big.NewInt(int64(n)), big.NewInt(7)).Int64())
}

// search returns the first day from n on, in steps of 1 or -1, with this day of
// the week.
func search(n, wanted, step int) int {
	for exactDay(n) != wanted {
		n += step
	}
	return n
}

// numbers lists day numbers of both signs, and the ends of the range.
func numbers() []int {
	var l []int
	for n := -30; n <= 30; n++ {
		l = append(l, n)
	}
	for _, n := range []int{-limit, -1 << 32, -730120, 577736, 730120, 1 << 31, 1 << 32, 365242500000, limit - 14} {
		for i := range 15 {
			l = append(l, n+i)
		}
	}
	return l
}

// outside lists numbers just outside of the range, and far from it.
func outside() []int {
	return []int{-limit - 1, -limit - 2, -limit - 7, -2 * limit, limit + 1, limit + 2, limit + 7, 2 * limit, -1 << 62, 1 << 62, least, least + 1, most, most - 1}
}

// noWeekdays lists numbers that are not days of the week.
func noWeekdays() []int {
	return []int{-1, -2, -6, -7, -8, 7, 8, 13, 14, 1 << 32, 1<<32 + 1, -1 << 32, least, least + 1, most, most - 1}
}

// noCounts lists numbers that are not counts.
func noCounts() []int {
	return []int{0, -1001, 1001, -1002, 1002, -2000, 2000, 1 << 32, 1<<32 + 1, -1 << 32, least, least + 1, most, most - 1}
}

// P4.1: the first days, negative ones, those of known dates, and the ends of
// the integers: -2^63 leaves the remainder 6, and 2^63 - 1 the remainder 0.
func TestOf(t *testing.T) {
	for n, want := range map[int]int{
		0: api.Sunday, 1: api.Monday, 2: api.Tuesday, 3: api.Wednesday, 4: api.Thursday, 5: api.Friday, 6: api.Saturday, 7: api.Sunday, 8: api.Monday,
		13: api.Saturday, 14: api.Sunday, 700: api.Sunday, 704: api.Thursday,
		-1: api.Saturday, -2: api.Friday, -3: api.Thursday, -4: api.Wednesday, -5: api.Tuesday, -6: api.Monday, -7: api.Sunday, -8: api.Saturday,
		-13: api.Monday, -14: api.Sunday, -15: api.Saturday, -700: api.Sunday, -701: api.Saturday,
		577736: api.Friday, 730120: api.Saturday, 730121: api.Sunday, 738976: api.Sunday,
		limit: api.Tuesday, limit + 1: api.Wednesday, -limit: api.Friday, -limit - 1: api.Thursday,
		least: api.Saturday, least + 1: api.Sunday, least + 2: api.Monday, least + 7: api.Saturday,
		most: api.Sunday, most - 1: api.Saturday, most - 6: api.Monday, most - 7: api.Sunday,
	} {
		if got := weekday.Of(n); got != want {
			t.Errorf("Of(%d) = %d, want %d", n, got, want)
		}
	}
}

// P4.1: numbers from all parts of the integers.
func TestOfExact(t *testing.T) {
	for _, start := range []int{least, -1 << 62, -1<<32 - 100, -200, 1<<32 - 100, 1<<40 - 100, 1 << 62, most - 400} {
		for i := range 400 {
			if got := weekday.Of(start + i); got != exactDay(start+i) {
				t.Fatalf("Of(%d) = %d, want %d", start+i, got, exactDay(start+i))
			}
		}
	}
	const step = 1 << 64 / 10007
	for i, n := 0, least; i < 10007; i, n = i+1, n+step {
		if got := weekday.Of(n); got != exactDay(n) {
			t.Fatalf("Of(%d) = %d, want %d", n, got, exactDay(n))
		}
	}
}

// P4.1: the days of known dates.
func TestOfDates(t *testing.T) {
	for d, want := range map[api.Date]int{
		{Year: 1, Month: 1, Day: 1}:               api.Monday,
		{Year: 1582, Month: 10, Day: 15}:          api.Friday,
		{Year: 2000, Month: 1, Day: 1}:            api.Saturday,
		{Year: 2024, Month: 2, Day: 29}:           api.Thursday,
		{Year: 2024, Month: 3, Day: 31}:           api.Sunday,
		{Year: api.MaxYear, Month: 12, Day: 31}:   api.Sunday,
		{Year: api.MaxYear - 1, Month: 1, Day: 1}: api.Friday,
	} {
		n, errno := gregorian.ToDay(d)
		if got := weekday.Of(n); errno != api.OK || got != want {
			t.Errorf("Of(%d) = %d for %v, want %d", n, got, d, want)
		}
	}
}

// P4.2: the examples, a number that has the day of the week itself, those next
// to it, and the ends of the range, beyond which the result may lie.
func TestNearest(t *testing.T) {
	for _, x := range []struct {
		n, weekday, after, before int
	}{
		{730120, api.Saturday, 730120, 730120},
		{730120, api.Sunday, 730121, 730114},
		{730120, api.Monday, 730122, 730115},
		{730120, api.Friday, 730126, 730119},
		{730121, api.Sunday, 730121, 730121},
		{730121, api.Saturday, 730127, 730120},
		{0, api.Sunday, 0, 0},
		{0, api.Monday, 1, -6},
		{0, api.Saturday, 6, -1},
		{1, api.Sunday, 7, 0},
		{-1, api.Saturday, -1, -1},
		{-1, api.Sunday, 0, -7},
		{-1, api.Friday, 5, -2},
		{-7, api.Sunday, -7, -7},
		{-8, api.Sunday, -7, -14},
		{limit, api.Tuesday, limit, limit},
		{limit, api.Wednesday, limit + 1, limit - 6},
		{limit, api.Monday, limit + 6, limit - 1},
		{-limit, api.Friday, -limit, -limit},
		{-limit, api.Saturday, -limit + 1, -limit - 6},
		{-limit, api.Thursday, -limit + 6, -limit - 1},
	} {
		if got := pack(weekday.OnOrAfter(x.n, x.weekday)); got != found(x.after) {
			t.Errorf("OnOrAfter(%d, %d) = %v, want %d", x.n, x.weekday, got, x.after)
		}
		if got := pack(weekday.OnOrBefore(x.n, x.weekday)); got != found(x.before) {
			t.Errorf("OnOrBefore(%d, %d) = %v, want %d", x.n, x.weekday, got, x.before)
		}
	}
}

// P4.2: every day of the week, by a search day by day.
func TestNearestBySearch(t *testing.T) {
	for _, n := range numbers() {
		for w := range 7 {
			if got, want := pack(weekday.OnOrAfter(n, w)), search(n, w, 1); got != found(want) {
				t.Errorf("OnOrAfter(%d, %d) = %v, want %d", n, w, got, want)
			}
			if got, want := pack(weekday.OnOrBefore(n, w)), search(n, w, -1); got != found(want) {
				t.Errorf("OnOrBefore(%d, %d) = %v, want %d", n, w, got, want)
			}
		}
	}
}

// P4.2: the errors, with the number 0; ErrArg is the first where both apply.
func TestNearestErrors(t *testing.T) {
	nearest := map[string]func(n, weekday int) (int, api.Errno){
		"OnOrAfter":  weekday.OnOrAfter,
		"OnOrBefore": weekday.OnOrBefore,
	}
	for name, f := range nearest {
		for _, w := range noWeekdays() {
			for _, n := range append(numbers(), outside()...) {
				if got := pack(f(n, w)); got != failed(api.ErrArg) {
					t.Errorf("%s(%d, %d) = %v, want ErrArg", name, n, w, got)
				}
			}
		}
		for _, n := range outside() {
			for w := range 7 {
				if got := pack(f(n, w)); got != failed(api.ErrRange) {
					t.Errorf("%s(%d, %d) = %v, want ErrRange", name, n, w, got)
				}
			}
		}
	}
}

// P4.3: the examples, both directions, and the ends of the counts and the range.
func TestNth(t *testing.T) {
	for _, x := range []struct {
		n, weekday, count, want int
	}{
		{730120, api.Saturday, 1, 730120},
		{730120, api.Saturday, 2, 730127},
		{730120, api.Saturday, -1, 730120},
		{730120, api.Saturday, -2, 730113},
		{730120, api.Sunday, 1, 730121},
		{730120, api.Sunday, 3, 730135},
		{730120, api.Sunday, -1, 730114},
		{730120, api.Sunday, -4, 730093},
		{0, api.Sunday, 1000, 6993},
		{0, api.Sunday, -1000, -6993},
		{0, api.Monday, 999, 6987},
		{0, api.Monday, -999, -6992},
		{-1, api.Sunday, 1, 0},
		{-1, api.Sunday, 2, 7},
		{-1, api.Sunday, -2, -14},
		{limit, api.Tuesday, 1000, limit + 6993},
		{limit, api.Monday, 1000, limit + 6999},
		{limit, api.Tuesday, -1000, limit - 6993},
		{-limit, api.Friday, 1000, -limit + 6993},
		{-limit, api.Friday, -1000, -limit - 6993},
		{-limit, api.Saturday, -1000, -limit - 6999},
	} {
		if got := pack(weekday.Nth(x.n, x.weekday, x.count)); got != found(x.want) {
			t.Errorf("Nth(%d, %d, %d) = %v, want %d", x.n, x.weekday, x.count, got, x.want)
		}
	}
}

// P4.3: every count leads to the next of the days that are found one by one.
func TestNthFollows(t *testing.T) {
	for _, n := range []int{-limit, -limit + 1, -1, 0, 1, 6, 7, 730120, 365242500000, limit - 1, limit} {
		for w := range 7 {
			after, before := search(n, w, 1), search(n, w, -1)
			for count := 1; count <= 1000; count++ {
				if got := pack(weekday.Nth(n, w, count)); got != found(after) {
					t.Fatalf("Nth(%d, %d, %d) = %v, want %d", n, w, count, got, after)
				}
				if got := pack(weekday.Nth(n, w, -count)); got != found(before) {
					t.Fatalf("Nth(%d, %d, %d) = %v, want %d", n, w, -count, got, before)
				}
				after, before = search(after+1, w, 1), search(before-1, w, -1)
			}
		}
	}
}

// P4.3: ErrArg for days of the week and counts, with the number 0, also where
// the number is out of range.
func TestNthArguments(t *testing.T) {
	for _, n := range append([]int{0, 730120, -limit, limit}, outside()...) {
		for _, w := range noWeekdays() {
			for _, count := range append([]int{1, -1, 2, 1000, -1000}, noCounts()...) {
				if got := pack(weekday.Nth(n, w, count)); got != failed(api.ErrArg) {
					t.Errorf("Nth(%d, %d, %d) = %v, want ErrArg", n, w, count, got)
				}
			}
		}
		for w := range 7 {
			for _, count := range noCounts() {
				if got := pack(weekday.Nth(n, w, count)); got != failed(api.ErrArg) {
					t.Errorf("Nth(%d, %d, %d) = %v, want ErrArg", n, w, count, got)
				}
			}
		}
	}
}

// P4.3: ErrRange for numbers just outside and far from the range, with the number 0.
func TestNthRange(t *testing.T) {
	for _, n := range outside() {
		for w := range 7 {
			for _, count := range []int{1, -1, 2, -2, 1000, -1000} {
				if got := pack(weekday.Nth(n, w, count)); got != failed(api.ErrRange) {
					t.Errorf("Nth(%d, %d, %d) = %v, want ErrRange", n, w, count, got)
				}
			}
		}
	}
}

// P4.4: names and days of the week in both directions.
func TestNames(t *testing.T) {
	for w, name := range names() {
		if got := weekday.Name(w); got != name {
			t.Errorf("Name(%d) = %q, want %q", w, got, name)
		}
		if got := weekday.Find(name); got != w {
			t.Errorf("Find(%q) = %d, want %d", name, got, w)
		}
		if got := weekday.Find(weekday.Name(w)); got != w {
			t.Errorf("Find(Name(%d)) = %d", w, got)
		}
		if got := weekday.Name(weekday.Find(name)); got != name {
			t.Errorf("Name(Find(%q)) = %q", name, got)
		}
	}
}

// P4.4: numbers that are not days of the week have no name.
func TestNoName(t *testing.T) {
	for _, w := range noWeekdays() {
		if got := weekday.Name(w); got != "" {
			t.Errorf("Name(%d) = %q", w, got)
		}
	}
}

// P4.4: names that differ from those of the days of the week in case, in length
// or by other characters.
func TestNotFound(t *testing.T) {
	l := []string{"", " ", "\x00", "day", "0", "1", "7", "-1", "sundaymonday", "sonntag", "easter", "s\u00fcnday", "\u017funday", "\xff", strings.Repeat("monday", 1000)}
	for _, name := range names() {
		l = append(l, strings.ToUpper(name), strings.ToUpper(name[:1])+name[1:], name[:len(name)-1]+"Y")
		l = append(l, name[:3], name[:len(name)-1], name[1:], name+"s", name+" ", " "+name, name+"\n", name+"\x00", name+name)
	}
	for _, name := range l {
		if got := weekday.Find(name); got != -1 {
			t.Errorf("Find(%q) = %d, want -1", name, got)
		}
	}
}
