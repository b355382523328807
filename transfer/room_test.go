package transfer_test

import "testing"

// P22.3: without impeded feasts, all free days count.
func TestRoomWithoutImpededFeasts(t *testing.T) {
	for _, x := range []struct {
		days string
		want int
	}{
		{"", 0}, {"-", 0}, {"+", 1}, {"--", 0}, {"+-", 1}, {"-+", 1}, {"++", 2}, {"+--+-++", 4}, {"-----", 0},
	} {
		expectRoom(t, days(x.days), feasts(len(x.days), nil), x.want)
		impeded := feasts(len(x.days), nil)
		for day := range impeded {
			impeded[day] = []int{}
		}
		expectRoom(t, days(x.days), impeded, x.want)
	}
}

// P22.3: only the free days after the last day with an impeded feast count, and only
// those to which no feast is moved.
func TestRoomWithImpededFeasts(t *testing.T) {
	for _, x := range []struct {
		name string
		days string
		on   map[int][]int
		want int
	}{
		{"the only free day is taken", "-+", map[int][]int{0: {1}}, 0},
		{"one is left", "-++", map[int][]int{0: {1}}, 1},
		{"the own day does not count", "+++", map[int][]int{0: {1}}, 1},
		{"days before do not count", "+++++", map[int][]int{2: {1}}, 1},
		{"days that are not free do not count", "-+-+-", map[int][]int{0: {1}}, 1},
		{"after the last one only", "-++++-+++", map[int][]int{0: {1}, 5: {2}}, 2},
		{"the earlier one is moved before the last one", "-+-++", map[int][]int{0: {1}, 2: {2}}, 1},
		{"the earlier one is moved to the last one's day", "--++++", map[int][]int{0: {1}, 2: {2}}, 2},
		{"the earlier one is moved beyond the last one's day", "---++++", map[int][]int{0: {1}, 2: {2}}, 2},
		{"several of the last day", "+-+++++", map[int][]int{1: {1, 2, 3}}, 2},
		{"the last day with a list has no feast", "-++++", map[int][]int{0: {1}, 3: {}}, 3},
		{"until the end of the window", "-+++-+", map[int][]int{4: {1}}, 0},
		{"all are taken", "-+++", map[int][]int{0: {1, 2}, 1: {3}}, 0},
	} {
		free, impeded := days(x.days), feasts(len(x.days), x.on)
		t.Run(x.name, func(t *testing.T) {
			expectRoom(t, free, impeded, x.want)
		})
	}
}
