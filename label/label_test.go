package label_test

import (
	"fmt"
	"math"
	"slices"
	"testing"

	"computus/api"
	"computus/civil"
	"computus/label"
)

const (
	least = math.MinInt
	most  = math.MaxInt
)

// place is what Position returns.
type place struct {
	lunation, position int
	ok                 bool
}

func pack(lunation, position int, ok bool) place { return place{lunation, position, ok} }

// monthDays returns the length of a month of a common year.
func monthDays(month int) int {
	return []int{31, 28, 31, 30, 31, 30, 31, 31, 30, 31, 30, 31}[month-1]
}

// allDays lists the days of a common year as pairs of month and day.
func allDays() [][2]int {
	var l [][2]int
	for month := 1; month <= 12; month++ {
		for day := 1; day <= monthDays(month); day++ {
			l = append(l, [2]int{month, day})
		}
	}
	return l
}

// noDays lists pairs that are not days of a common year.
func noDays() [][2]int {
	extremes := []int{0, -1, -2, -3, -12, -28, -31, least, least + 1, least + 12, -1 << 32, -1<<32 + 1, 1 << 32, 1<<32 + 1, 1<<32 + 3, 1 << 62, most - 1, most}
	noMonths := append([]int{13, 14, 24, 25, 256, 257}, extremes...)
	tooLate := append([]int{32, 33, 60, 61, 100, 256, 257}, extremes...)
	var l [][2]int
	for month := 1; month <= 12; month++ {
		for day := monthDays(month) + 1; day <= 40; day++ {
			l = append(l, [2]int{month, day})
		}
		for _, day := range tooLate {
			l = append(l, [2]int{month, day})
		}
	}
	for _, month := range noMonths {
		for day := 0; day <= 32; day++ {
			l = append(l, [2]int{month, day})
		}
		for _, day := range tooLate {
			l = append(l, [2]int{month, day})
		}
	}
	return l
}

// noLabels lists numbers that are not labels.
func noLabels() []int {
	return []int{0, 32, 33, 34, 60, 61, 62, 100, 256, 257, -1, -2, -24, -25, -30, -31, -32, 1 << 32, 1<<32 + 1, 1<<32 + 30, -1 << 32, -1<<32 + 31, 1 << 62, least, least + 1, least + 30, most, most - 1}
}

// starts lists the first days of the lunations.
func starts() [][2]int {
	return [][2]int{{1, 1}, {1, 31}, {3, 1}, {3, 31}, {4, 29}, {5, 29}, {6, 27}, {7, 27}, {8, 25}, {9, 24}, {10, 23}, {11, 22}, {12, 21}}
}

// ends lists the last days of the lunations.
func ends() [][2]int {
	return [][2]int{{1, 30}, {2, 28}, {3, 30}, {4, 28}, {5, 28}, {6, 26}, {7, 26}, {8, 24}, {9, 23}, {10, 22}, {11, 21}, {12, 20}, {12, 31}}
}

// rows lists the labels of the days of a full and of a hollow lunation.
func rows() [2][][]int {
	return [2][][]int{
		{{30}, {29}, {28}, {27}, {26}, {31, 25}, {24}, {23}, {22}, {21}, {20}, {19}, {18}, {17}, {16}, {15}, {14}, {13}, {12}, {11}, {10}, {9}, {8}, {7}, {6}, {5}, {4}, {3}, {2}, {1}},
		{{30}, {29}, {28}, {27}, {31, 26}, {25, 24}, {23}, {22}, {21}, {20}, {19}, {18}, {17}, {16}, {15}, {14}, {13}, {12}, {11}, {10}, {9}, {8}, {7}, {6}, {5}, {4}, {3}, {2}, {1}},
	}
}

// P8.1: every day of a common year, by counting on from the first days of the
// lunations.
func TestPositionOfEveryDay(t *testing.T) {
	want := place{-1, 0, true}
	for _, d := range allDays() {
		want.position++
		if want.lunation < 12 && d == starts()[want.lunation+1] {
			want.lunation++
			want.position = 0
		}
		if got := pack(label.Position(d[0], d[1])); got != want {
			t.Errorf("Position(%d, %d) = %v, want %v", d[0], d[1], got, want)
		}
	}
	if want != (place{12, 10, true}) {
		t.Errorf("the last day is at %v", want)
	}
}

// P8.1: the first and the last day of each lunation; the last lunation ends
// early.
func TestPositionAtTheEndsOfLunations(t *testing.T) {
	lasts := []int{29, 28, 29, 28, 29, 28, 29, 28, 29, 28, 29, 28, 10}
	for i := range 13 {
		first, last := starts()[i], ends()[i]
		if got := pack(label.Position(first[0], first[1])); got != (place{i, 0, true}) {
			t.Errorf("Position(%d, %d) = %v, want the first day of the lunation %d", first[0], first[1], got, i)
		}
		if got := pack(label.Position(last[0], last[1])); got != (place{i, lasts[i], true}) {
			t.Errorf("Position(%d, %d) = %v, want the day %d of the lunation %d", last[0], last[1], got, lasts[i], i)
		}
	}
}

// P8.1: known days, also those around 29 February, which is in no common year
// and belongs to no lunation.
func TestPositionOfKnownDays(t *testing.T) {
	for _, x := range []struct {
		month, day int
		want       place
	}{
		{1, 1, place{0, 0, true}},
		{1, 2, place{0, 1, true}},
		{1, 30, place{0, 29, true}},
		{1, 31, place{1, 0, true}},
		{2, 1, place{1, 1, true}},
		{2, 4, place{1, 4, true}},
		{2, 27, place{1, 27, true}},
		{2, 28, place{1, 28, true}},
		{2, 29, place{}},
		{2, 30, place{}},
		{3, 1, place{2, 0, true}},
		{3, 2, place{2, 1, true}},
		{3, 8, place{2, 7, true}},
		{3, 12, place{2, 11, true}},
		{4, 4, place{3, 4, true}},
		{4, 5, place{3, 5, true}},
		{7, 4, place{6, 7, true}},
		{12, 20, place{11, 28, true}},
		{12, 21, place{12, 0, true}},
		{12, 26, place{12, 5, true}},
		{12, 31, place{12, 10, true}},
		{12, 32, place{}},
	} {
		if got := pack(label.Position(x.month, x.day)); got != x.want {
			t.Errorf("Position(%d, %d) = %v, want %v", x.month, x.day, got, x.want)
		}
	}
}

// P8.1, P8.2: days that a common year does not have, with the numbers 0, and
// without labels.
func TestNoSuchDay(t *testing.T) {
	for _, d := range noDays() {
		if got := pack(label.Position(d[0], d[1])); got != (place{}) {
			t.Errorf("Position(%d, %d) = %v, want 0, 0 and false", d[0], d[1], got)
		}
		if got := label.On(d[0], d[1]); len(got) != 0 {
			t.Errorf("On(%d, %d) = %v, want no labels", d[0], d[1], got)
		}
		for l := -1; l <= 33; l++ {
			if label.Bears(d[0], d[1], l) {
				t.Errorf("Bears(%d, %d, %d)", d[0], d[1], l)
			}
		}
		for _, l := range noLabels() {
			if label.Bears(d[0], d[1], l) {
				t.Errorf("Bears(%d, %d, %d)", d[0], d[1], l)
			}
		}
	}
}

// P8.1: the days that have a position are those of a common year.
func TestDaysAreThoseOfACommonYear(t *testing.T) {
	for month := -2; month <= 15; month++ {
		for day := -2; day <= 34; day++ {
			_, errno := civil.ToDay(api.Gregorian, api.Date{Year: 2023, Month: month, Day: day})
			if got := pack(label.Position(month, day)); got.ok != (errno == api.OK) {
				t.Errorf("Position(%d, %d) = %v", month, day, got)
			}
		}
	}
}

// P8.2: the examples of the chapter and of the document, and days at which labels
// stand together.
func TestOnKnownDays(t *testing.T) {
	for _, x := range []struct {
		month, day int
		want       []int
	}{
		{1, 1, []int{30}},
		{1, 2, []int{29}},
		{1, 5, []int{26}},
		{1, 6, []int{31, 25}},
		{1, 7, []int{24}},
		{1, 30, []int{1}},
		{1, 31, []int{30}},
		{2, 3, []int{27}},
		{2, 4, []int{31, 26}},
		{2, 5, []int{25, 24}},
		{2, 6, []int{23}},
		{2, 28, []int{1}},
		{3, 1, []int{30}},
		{3, 5, []int{26}},
		{3, 6, []int{31, 25}},
		{3, 7, []int{24}},
		{3, 8, []int{23}},
		{3, 12, []int{19}},
		{3, 30, []int{1}},
		{3, 31, []int{30}},
		{4, 3, []int{27}},
		{4, 4, []int{31, 26}},
		{4, 5, []int{25, 24}},
		{4, 6, []int{23}},
		{4, 28, []int{1}},
		{12, 20, []int{1}},
		{12, 21, []int{30}},
		{12, 25, []int{26}},
		{12, 26, []int{31, 25}},
		{12, 27, []int{24}},
		{12, 31, []int{20}},
	} {
		if got := label.On(x.month, x.day); !slices.Equal(got, x.want) {
			t.Errorf("On(%d, %d) = %v, want %v", x.month, x.day, got, x.want)
		}
	}
}

// P8.2: every day of a common year, by the rows of full and of hollow lunations.
func TestOnEveryDay(t *testing.T) {
	lunation, position := -1, 0
	for _, d := range allDays() {
		position++
		if slices.Contains(starts(), d) {
			lunation++
			position = 0
		}
		want := rows()[lunation%2][position]
		if got := label.On(d[0], d[1]); !slices.Equal(got, want) {
			t.Errorf("On(%d, %d) = %v, want %v", d[0], d[1], got, want)
		}
	}
}

// P8.2: the labels of every day, by the rules of the chapter for its position.
func TestOnFollowsThePosition(t *testing.T) {
	for _, d := range allDays() {
		lunation, position, _ := label.Position(d[0], d[1])
		full := lunation%2 == 0
		var want []int
		for l := 31; l >= 1; l-- {
			in := false
			switch {
			case l == 31:
				in = full && position == 5 || !full && position == 4
			case full || position <= 4:
				in = l == 30-position
			case position == 5:
				in = l == 25 || l == 24
			default:
				in = l == 29-position
			}
			if in {
				want = append(want, l)
			}
		}
		if got := label.On(d[0], d[1]); !slices.Equal(got, want) {
			t.Errorf("On(%d, %d) = %v, want %v", d[0], d[1], got, want)
		}
	}
}

// P8.2: the labels of a day are different ones from 1 to 31, in descending order.
func TestOnIsDescending(t *testing.T) {
	for _, d := range allDays() {
		got := label.On(d[0], d[1])
		if len(got) == 0 || got[0] > 31 || got[len(got)-1] < 1 {
			t.Errorf("On(%d, %d) = %v", d[0], d[1], got)
		}
		for i := 1; i < len(got); i++ {
			if got[i-1] <= got[i] {
				t.Errorf("On(%d, %d) = %v, which is not in descending order", d[0], d[1], got)
			}
		}
	}
}

// P8.2: known days, with labels that they have and labels that they do not have.
func TestBearsOnKnownDays(t *testing.T) {
	for _, x := range []struct {
		month, day, label int
		want              bool
	}{
		{1, 1, 30, true}, {1, 1, 29, false}, {1, 1, 31, false}, {1, 1, 0, false},
		{3, 8, 23, true}, {3, 8, 24, false}, {3, 8, 22, false},
		{3, 12, 19, true}, {3, 12, 20, false},
		{3, 6, 31, true}, {3, 6, 25, true}, {3, 6, 24, false}, {3, 6, 26, false}, {3, 6, 30, false},
		{3, 5, 26, true}, {3, 5, 31, false}, {3, 5, 25, false},
		{3, 7, 24, true}, {3, 7, 25, false}, {3, 7, 31, false},
		{4, 4, 31, true}, {4, 4, 26, true}, {4, 4, 25, false}, {4, 4, 27, false},
		{4, 5, 25, true}, {4, 5, 24, true}, {4, 5, 31, false}, {4, 5, 26, false}, {4, 5, 23, false},
		{4, 6, 23, true}, {4, 6, 24, false},
		{2, 28, 1, true}, {2, 28, 30, false}, {2, 29, 1, false}, {2, 29, 30, false}, {2, 29, 0, false}, {3, 1, 30, true}, {3, 1, 1, false},
		{12, 31, 20, true}, {12, 31, 19, false}, {12, 32, 19, false}, {13, 1, 19, false}, {0, 31, 30, false},
	} {
		if got := label.Bears(x.month, x.day, x.label); got != x.want {
			t.Errorf("Bears(%d, %d, %d) = %v", x.month, x.day, x.label, got)
		}
	}
}

// P8.2: Bears agrees with On, also for numbers that are not labels.
func TestBearsAgreesWithOn(t *testing.T) {
	for _, d := range allDays() {
		on := label.On(d[0], d[1])
		for l := -1; l <= 33; l++ {
			if got := label.Bears(d[0], d[1], l); got != slices.Contains(on, l) {
				t.Errorf("Bears(%d, %d, %d) = %v, and On is %v", d[0], d[1], l, got, on)
			}
		}
		for _, l := range noLabels() {
			if label.Bears(d[0], d[1], l) {
				t.Errorf("Bears(%d, %d, %d)", d[0], d[1], l)
			}
		}
	}
}

// P8.3: known labels: the ends of their range, those that stand together with
// others, and those next to the end of the last lunation, which ends early.
func TestDaysOfKnownLabels(t *testing.T) {
	for l, want := range map[int][][2]int{
		1:  {{1, 30}, {2, 28}, {3, 30}, {4, 28}, {5, 28}, {6, 26}, {7, 26}, {8, 24}, {9, 23}, {10, 22}, {11, 21}, {12, 20}},
		19: {{1, 12}, {2, 10}, {3, 12}, {4, 10}, {5, 10}, {6, 8}, {7, 8}, {8, 6}, {9, 5}, {10, 4}, {11, 3}, {12, 2}},
		20: {{1, 11}, {2, 9}, {3, 11}, {4, 9}, {5, 9}, {6, 7}, {7, 7}, {8, 5}, {9, 4}, {10, 3}, {11, 2}, {12, 1}, {12, 31}},
		24: {{1, 7}, {2, 5}, {3, 7}, {4, 5}, {5, 5}, {6, 3}, {7, 3}, {8, 1}, {8, 31}, {9, 29}, {10, 29}, {11, 27}, {12, 27}},
		25: {{1, 6}, {2, 5}, {3, 6}, {4, 5}, {5, 4}, {6, 3}, {7, 2}, {8, 1}, {8, 30}, {9, 29}, {10, 28}, {11, 27}, {12, 26}},
		26: {{1, 5}, {2, 4}, {3, 5}, {4, 4}, {5, 3}, {6, 2}, {7, 1}, {7, 31}, {8, 29}, {9, 28}, {10, 27}, {11, 26}, {12, 25}},
		30: starts(),
		31: {{1, 6}, {2, 4}, {3, 6}, {4, 4}, {5, 4}, {6, 2}, {7, 2}, {7, 31}, {8, 30}, {9, 28}, {10, 28}, {11, 26}, {12, 26}},
	} {
		if got := label.Days(l); !slices.Equal(got, want) {
			t.Errorf("Days(%d) = %v, want %v", l, got, want)
		}
	}
}

// P8.3: every label, by searching the rows of the lunations.
func TestDaysOfEveryLabel(t *testing.T) {
	for l := 1; l <= 31; l++ {
		var want [][2]int
		lunation, position := -1, 0
		for _, d := range allDays() {
			position++
			if slices.Contains(starts(), d) {
				lunation++
				position = 0
			}
			if slices.Contains(rows()[lunation%2][position], l) {
				want = append(want, d)
			}
		}
		if got := label.Days(l); !slices.Equal(got, want) {
			t.Errorf("Days(%d) = %v, want %v", l, got, want)
		}
	}
}

// P8.3: Days lists exactly the days that bear the label, in calendar order.
func TestDaysAgreesWithBears(t *testing.T) {
	for l := -1; l <= 33; l++ {
		var want [][2]int
		for _, d := range allDays() {
			if label.Bears(d[0], d[1], l) {
				want = append(want, d)
			}
		}
		if got := label.Days(l); !slices.Equal(got, want) {
			t.Errorf("Days(%d) = %v, want %v", l, got, want)
		}
	}
}

// P8.3: numbers that are not labels have no days; the ones next to them have.
func TestDaysOfNoLabel(t *testing.T) {
	for _, l := range noLabels() {
		if got := label.Days(l); len(got) != 0 {
			t.Errorf("Days(%d) = %v, want no days", l, got)
		}
	}
	for _, l := range []int{1, 31} {
		if len(label.Days(l)) == 0 {
			t.Errorf("Days(%d) is empty", l)
		}
	}
}

// P8.4: every label is borne by exactly one day of each of the first twelve
// lunations; the last one has a day of each label from 20 on.
func TestEveryLabelInEveryLunation(t *testing.T) {
	var counts [13][32]int
	for _, d := range allDays() {
		lunation, _, ok := label.Position(d[0], d[1])
		if !ok {
			t.Fatalf("Position(%d, %d) fails", d[0], d[1])
		}
		for _, l := range label.On(d[0], d[1]) {
			counts[lunation][l]++
		}
	}
	for lunation := range 13 {
		for l := 1; l <= 31; l++ {
			want := 1
			if lunation == 12 && l < 20 {
				want = 0
			}
			if counts[lunation][l] != want {
				t.Errorf("the lunation %d has %d days with the label %d, want %d", lunation, counts[lunation][l], l, want)
			}
		}
	}
}

// spoil changes the elements of a slice and its unused capacity.
func spoil[E any](l []E, e E) {
	l = l[:cap(l)]
	for i := range l {
		l[i] = e
	}
}

// P8.5: a caller that changes the labels of a day changes no other result.
func TestOnIsNewlyAllocated(t *testing.T) {
	for _, d := range allDays() {
		kept := label.On(d[0], d[1])
		want := slices.Clone(kept)
		spoil(label.On(d[0], d[1]), -7)
		if !slices.Equal(kept, want) {
			t.Errorf("On(%d, %d) = %v became %v", d[0], d[1], want, kept)
		}
		if got := label.On(d[0], d[1]); !slices.Equal(got, want) {
			t.Errorf("On(%d, %d) = %v, want %v", d[0], d[1], got, want)
		}
	}
	spoil(label.On(2, 29), -7)
	if got := label.On(2, 29); len(got) != 0 {
		t.Errorf("On(2, 29) = %v, want no labels", got)
	}
}

// P8.5: a caller that changes the days of a label changes no other result.
func TestDaysIsNewlyAllocated(t *testing.T) {
	for l := 0; l <= 32; l++ {
		kept := label.Days(l)
		want := slices.Clone(kept)
		spoil(label.Days(l), [2]int{-7, -7})
		if !slices.Equal(kept, want) {
			t.Errorf("Days(%d) = %v became %v", l, want, kept)
		}
		if got := label.Days(l); !slices.Equal(got, want) {
			t.Errorf("Days(%d) = %v, want %v", l, got, want)
		}
	}
}

// P8.5: changed results spoil no result of any other function, either.
func TestResultsDoNotDependOnEarlierOnes(t *testing.T) {
	all := func() string {
		text := ""
		for _, d := range allDays() {
			text += fmt.Sprint(d, pack(label.Position(d[0], d[1])), label.On(d[0], d[1]))
		}
		for l := 1; l <= 31; l++ {
			text += fmt.Sprint(label.Days(l), label.Bears(4, 4, l))
		}
		return text
	}
	before := all()
	for _, d := range allDays() {
		spoil(label.On(d[0], d[1]), 30)
	}
	for l := 1; l <= 31; l++ {
		spoil(label.Days(l), [2]int{1, 1})
	}
	if all() != before {
		t.Error("changed results change later ones")
	}
}
