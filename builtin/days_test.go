package builtin_test

import (
	"testing"

	"computus/anchor"
	"computus/api"
	"computus/builtin"
	"computus/easter"
	"computus/gregorian"
	"computus/season"
	"computus/weekday"
)

// monthDay is a date without its year.
type monthDay struct{ month, day int }

// dateOf returns the day of a season or a feast in a year.
func dateOf(t *testing.T, id string, year int) monthDay {
	t.Helper()
	d, errno := anchor.Date(anchors()[id], year)
	if errno != api.OK || d.Year != year {
		t.Fatalf("%s is on %v in %d, error %v", id, d, year, errno)
	}
	return monthDay{d.Month, d.Day}
}

// dayNumber returns the day number of a date.
func dayNumber(t *testing.T, year, month, day int) int {
	t.Helper()
	n, errno := gregorian.ToDay(api.Date{Year: year, Month: month, Day: day})
	if errno != api.OK {
		t.Fatalf("there is no date %d-%d-%d", year, month, day)
	}
	return n
}

// someYears lists common years and leap years with an early Easter (1818 has the
// earliest and 2008 the next one), with a late one (2038 has the latest and 2000 an
// Easter two days before it), and with one in between.
func someYears() [6]int {
	return [6]int{1818, 2008, 2023, 2024, 2000, 2038}
}

// P24.1: the starts of the seasons, in the order of someYears.
func TestKnownStarts(t *testing.T) {
	for id, want := range map[string][6]monthDay{
		"baptism-tide":  {{1, 12}, {1, 14}, {1, 9}, {1, 8}, {1, 10}, {1, 11}},
		"lent":          {{2, 4}, {2, 6}, {2, 22}, {2, 14}, {3, 8}, {3, 10}},
		"holy-week":     {{3, 15}, {3, 16}, {4, 2}, {3, 24}, {4, 16}, {4, 18}},
		"easter-octave": {{3, 22}, {3, 23}, {4, 9}, {3, 31}, {4, 23}, {4, 25}},
		"eastertide":    {{3, 30}, {3, 31}, {4, 17}, {4, 8}, {5, 1}, {5, 3}},
		"ordinary-time": {{5, 11}, {5, 12}, {5, 29}, {5, 20}, {6, 12}, {6, 14}},
		"advent":        {{11, 29}, {11, 30}, {12, 3}, {12, 1}, {12, 3}, {11, 28}},
		"christmas":     {{12, 25}, {12, 25}, {12, 25}, {12, 25}, {12, 25}, {12, 25}},
	} {
		for i, year := range someYears() {
			if got := dateOf(t, id, year); got != want[i] {
				t.Errorf("%s starts on %v in %d, want %v", id, got, year, want[i])
			}
		}
	}
}

// P24.1: the days of the feasts that are not on the same date each year, in the
// order of someYears.
func TestKnownMovableDays(t *testing.T) {
	for id, want := range map[string][6]monthDay{
		"baptism-of-the-lord": {{1, 11}, {1, 13}, {1, 8}, {1, 7}, {1, 9}, {1, 10}},
		"ascension":           {{4, 30}, {5, 1}, {5, 18}, {5, 9}, {6, 1}, {6, 3}},
		"pentecost":           {{5, 10}, {5, 11}, {5, 28}, {5, 19}, {6, 11}, {6, 13}},
		"trinity":             {{5, 17}, {5, 18}, {6, 4}, {5, 26}, {6, 18}, {6, 20}},
		"corpus-christi":      {{5, 21}, {5, 22}, {6, 8}, {5, 30}, {6, 22}, {6, 24}},
		"sacred-heart":        {{5, 29}, {5, 30}, {6, 16}, {6, 7}, {6, 30}, {7, 2}},
		"christ-the-king":     {{11, 22}, {11, 23}, {11, 26}, {11, 24}, {11, 26}, {11, 21}},
	} {
		for i, year := range someYears() {
			if got := dateOf(t, id, year); got != want[i] {
				t.Errorf("%s is on %v in %d, want %v", id, got, year, want[i])
			}
		}
	}
}

// fixedDays returns the seasons and feasts that are on the same date each year.
func fixedDays() map[string]monthDay {
	return map[string]monthDay{
		"christmas":               {12, 25},
		"mary-mother-of-god":      {1, 1},
		"epiphany":                {1, 6},
		"conversion-of-paul":      {1, 25},
		"presentation":            {2, 2},
		"chair-of-peter":          {2, 22},
		"joseph":                  {3, 19},
		"annunciation":            {3, 25},
		"john-baptist":            {6, 24},
		"peter-and-paul":          {6, 29},
		"transfiguration":         {8, 6},
		"assumption":              {8, 15},
		"exaltation-of-the-cross": {9, 14},
		"all-saints":              {11, 1},
		"all-souls":               {11, 2},
		"andrew":                  {11, 30},
		"immaculate-conception":   {12, 8},
		"nativity":                {12, 25},
		"stephen":                 {12, 26},
	}
}

// P24.1: days that are on the same date in all years.
func TestFixedDays(t *testing.T) {
	for _, x := range yearsOfEaster(t) {
		for id, want := range fixedDays() {
			if got := dateOf(t, id, x.year); got != want {
				t.Errorf("%s is on %v in %d, want %v", id, got, x.year, want)
			}
		}
	}
}

// P24.1: days that are as far from Easter in all years.
func TestDistancesFromEaster(t *testing.T) {
	distances := map[string]int{
		"lent": -46, "holy-week": -7, "easter-octave": 0, "eastertide": 8, "ordinary-time": 50,
		"ascension": 39, "pentecost": 49, "trinity": 56, "corpus-christi": 60, "sacred-heart": 68,
	}
	for _, x := range yearsOfEaster(t) {
		paschal, _ := easter.Day(api.Gregorian, x.year)
		for id, distance := range distances {
			d := dateOf(t, id, x.year)
			if got := dayNumber(t, x.year, d.month, d.day); got != paschal+distance {
				t.Errorf("%s is %d days after Easter of %d, want %d", id, got-paschal, x.year, distance)
			}
		}
	}
}

// firstSunday returns the day number of the first Sunday on or after a date, by
// going from day to day.
func firstSunday(t *testing.T, year, month, day int) int {
	t.Helper()
	n := dayNumber(t, year, month, day)
	for weekday.Of(n) != api.Sunday {
		n++
	}
	return n
}

// P24.1: the days that are first Sundays on or after a date, and the start of
// baptism-tide, which is the day after one.
func TestFirstSundays(t *testing.T) {
	starts := map[int]bool{}
	for _, x := range yearsOfEaster(t) {
		for _, want := range []struct {
			id string
			n  int
		}{
			{"baptism-of-the-lord", firstSunday(t, x.year, 1, 7)},
			{"baptism-tide", firstSunday(t, x.year, 1, 7) + 1},
			{"christ-the-king", firstSunday(t, x.year, 11, 20)},
			{"advent", firstSunday(t, x.year, 11, 27)},
		} {
			d := dateOf(t, want.id, x.year)
			if got := dayNumber(t, x.year, d.month, d.day); got != want.n {
				t.Errorf("%s of %d is on %v, which is %d days too late", want.id, x.year, d, got-want.n)
			}
		}
		start := dateOf(t, "baptism-tide", x.year)
		starts[start.day] = start.month == 1
	}
	// The first Monday on or after 8 January is from the 8th to the 14th.
	for day := range 31 {
		if starts[day] != (day >= 8 && day <= 14) {
			t.Errorf("baptism-tide starts on %d January: %t", day, starts[day])
		}
	}
}

// P24.1: after the end of February, all starts and days are the same in a common
// year and in a leap year with the same Easter. Before it, those that follow Easter
// are a day later in the leap year.
func TestCommonAndLeapYearsWithTheSameEaster(t *testing.T) {
	years := map[monthDay][2]int{}
	for _, x := range yearsOfEaster(t) {
		pair := years[x.easter]
		if x.leap {
			pair[1] = x.year
		} else {
			pair[0] = x.year
		}
		years[x.easter] = pair
	}
	for _, pair := range years {
		for _, id := range builtin.Names() {
			common, leap := dateOf(t, id, pair[0]), dateOf(t, id, pair[1])
			if (common.month > 2 && leap.month > 2) && common != leap {
				t.Errorf("%s is on %v in %d, and on %v in %d", id, common, pair[0], leap, pair[1])
			}
		}
		common, leap := dateOf(t, "lent", pair[0]), dateOf(t, "lent", pair[1])
		if before := common.month == 2; before != (common != leap) {
			t.Errorf("lent starts on %v in %d, and on %v in %d", common, pair[0], leap, pair[1])
		}
	}
}

// P24.1: the seasons start in the order of the table, on different days; the year
// begins in the last one.
func TestSeasonsInOrder(t *testing.T) {
	c := builtin.Catalogue()
	for _, x := range yearsOfEaster(t) {
		starts, errno := season.Starts(c, x.year)
		if errno != api.OK || len(starts) != 8 {
			t.Fatalf("Starts(%d) = %v, error %v", x.year, starts, errno)
		}
		for i, start := range starts[1:] {
			if start <= starts[i] {
				t.Errorf("season %d of %d does not start after the one before", i+1, x.year)
			}
		}
		k := calendarOf(t, x.year)
		if k.Entries[0].Season != "christmas" || k.Entries[len(k.Entries)-1].Season != "christmas" {
			t.Errorf("%d is from %s to %s", x.year, k.Entries[0].Season, k.Entries[len(k.Entries)-1].Season)
		}
	}
}
