package epact_test

import (
	"math"
	"strconv"
	"testing"

	"computus/api"
	"computus/epact"
	"computus/golden"
)

const (
	least = math.MinInt
	most  = math.MaxInt
)

// number is what Of and Label return.
type number struct {
	n     int
	errno api.Errno
}

func pack(n int, errno api.Errno) number { return number{n, errno} }

func found(n int) number { return number{n, api.OK} }

func failed(errno api.Errno) number { return number{0, errno} }

// both lists the calendars.
func both() []int { return []int{api.Julian, api.Gregorian} }

// firstYear returns the first year of a calendar that has an epact.
func firstYear(calendar int) int {
	if calendar == api.Gregorian {
		return api.FirstGregorian
	}
	return api.MinYear
}

// noCalendars lists numbers that are not calendars.
func noCalendars() []int {
	return []int{0, 3, 4, -1, -2, -3, 1 << 32, 1<<32 + 1, 1<<32 + 2, -1 << 32, least, least + 1, least + 2, most, most - 1}
}

// noYears lists years that neither calendar accepts.
func noYears() []int {
	return []int{0, -1, -2, -4, -19, -99, -100, -400, -1583, -2000, -api.MaxYear, api.MaxYear + 1, api.MaxYear + 2, api.MaxYear + 19, api.MaxYear + 100, 2 * api.MaxYear, 1 << 32, 1<<32 + 2000, -1 << 32, -1<<32 + 2000, 1 << 62, -1 << 62, least, least + 1, least + 2000, most, most - 1}
}

// beforeGregorian lists years that only the Julian calendar accepts.
func beforeGregorian() []int {
	return []int{api.MinYear, 2, 4, 8, 19, 99, 100, 400, 1000, 1500, 1581, api.FirstGregorian - 1}
}

// spans lists years from the whole range of a calendar: all of the first and
// the last ones, and some in between.
func spans(calendar int) []int {
	var l []int
	from := firstYear(calendar)
	for i := range 8000 {
		l = append(l, from+i, api.MaxYear-i)
	}
	const step = 999_999_000 / 7919
	for year := from; year <= api.MaxYear; year += step {
		l = append(l, year)
	}
	return l
}

// P7.1: the examples of the chapter, and the first and last years of the Julian
// calendar.
func TestOfJulianYears(t *testing.T) {
	for year, want := range map[int]int{
		api.MinYear: 19, 2: 30, 7: 25, 17: 15, 18: 26, 19: 8, 20: 19, 1582: 3, 1583: 14, 1584: 25, 1699: 6, 1700: 17,
		1899: 26, 1900: 8, 1916: 4, 1954: 4, 1999: 22, 2000: 3, 2001: 14, 2013: 26, 2014: 8, 2024: 28,
		api.MaxYear - 19: 26, api.MaxYear - 18: 8, api.MaxYear - 1: 15, api.MaxYear: 26,
	} {
		if got := pack(epact.Of(api.Julian, year)); got != found(want) {
			t.Errorf("Of(Julian, %d) = %v, want %d", year, got, want)
		}
	}
}

// P7.1: the epacts of the golden numbers of the Julian calendar in every century.
func TestOfJulianGoldenNumbers(t *testing.T) {
	row := []int{8, 19, 30, 11, 22, 3, 14, 25, 6, 17, 28, 9, 20, 1, 12, 23, 4, 15, 26}
	for _, year := range spans(api.Julian) {
		if got := pack(epact.Of(api.Julian, year)); got != found(row[year%19]) {
			t.Fatalf("Of(Julian, %d) = %v, want %d", year, got, row[year%19])
		}
	}
}

// P7.1: the examples of the document, years around the beginnings of the golden
// numbers and of centuries, and the ends of the range of the Gregorian calendar.
func TestOfGregorianYears(t *testing.T) {
	for year, want := range map[int]int{
		api.FirstGregorian: 7, 1584: 18, 1698: 18, 1699: 29, 1700: 9, 1709: 18, 1710: 30, 1711: 11, 1715: 25,
		1799: 23, 1800: 4, 1899: 18, 1900: 29, 1916: 25, 1954: 25, 1981: 24, 1999: 13, 2000: 24, 2001: 5, 2013: 17, 2014: 29,
		2024: 19, 2099: 8, 2100: 19, 2199: 3, 2200: 13, 2299: 28, 2300: 8, 2399: 22, 2400: 4,
		api.MaxYear - 19: 16, api.MaxYear - 18: 28, api.MaxYear - 1: 5, api.MaxYear: 16,
	} {
		if got := pack(epact.Of(api.Gregorian, year)); got != found(want) {
			t.Errorf("Of(Gregorian, %d) = %v, want %d", year, got, want)
		}
	}
}

// P7.1: the epacts of the golden numbers of the Gregorian calendar in centuries
// at whose beginnings one correction, both or none grow.
func TestOfGregorianGoldenNumbers(t *testing.T) {
	for _, x := range []struct {
		first, last int
		row         []int
	}{
		{api.FirstGregorian, 1699, []int{1, 12, 23, 4, 15, 26, 7, 18, 29, 10, 21, 2, 13, 24, 5, 16, 27, 8, 19}},
		{1700, 1899, []int{30, 11, 22, 3, 14, 25, 6, 17, 28, 9, 20, 1, 12, 23, 4, 15, 26, 7, 18}},
		{1900, 2199, []int{29, 10, 21, 2, 13, 24, 5, 16, 27, 8, 19, 30, 11, 22, 3, 14, 25, 6, 17}},
		{2200, 2299, []int{28, 9, 20, 1, 12, 23, 4, 15, 26, 7, 18, 29, 10, 21, 2, 13, 24, 5, 16}},
		{2300, 2399, []int{27, 8, 19, 30, 11, 22, 3, 14, 25, 6, 17, 28, 9, 20, 1, 12, 23, 4, 15}},
		{2400, 2499, []int{28, 9, 20, 1, 12, 23, 4, 15, 26, 7, 18, 29, 10, 21, 2, 13, 24, 5, 16}},
		{3100, 3199, []int{24, 5, 16, 27, 8, 19, 30, 11, 22, 3, 14, 25, 6, 17, 28, 9, 20, 1, 12}},
	} {
		for year := x.first; year <= x.last; year++ {
			if got := pack(epact.Of(api.Gregorian, year)); got != found(x.row[year%19]) {
				t.Errorf("Of(Gregorian, %d) = %v, want %d", year, got, x.row[year%19])
			}
		}
	}
}

// P7.1: the epact is the number from 1 to 30 that is congruent to the formula.
func TestOfIsCongruent(t *testing.T) {
	for _, calendar := range both() {
		kinds := map[int]int{}
		for _, year := range spans(calendar) {
			number, _ := golden.Golden(year)
			formula := 11*number - 3
			if calendar == api.Gregorian {
				solar, _ := golden.Solar(year)
				lunar, _ := golden.Lunar(year)
				formula = 11*number + 20 + lunar - solar
			}
			got := pack(epact.Of(calendar, year))
			if got.errno != api.OK || got.n < 1 || got.n > 30 || (formula-got.n)%30 != 0 {
				t.Fatalf("Of(%d, %d) = %v, want %d modulo 30", calendar, year, got, formula)
			}
			kinds[got.n]++
		}
		want := map[int]int{api.Julian: 19, api.Gregorian: 30}[calendar]
		if len(kinds) != want || kinds[1] == 0 || kinds[30] == 0 {
			t.Errorf("the calendar %d has %d epacts, want %d with 1 and 30", calendar, len(kinds), want)
		}
	}
}

// P7.1: years with the epact 25 on both sides of the golden number 11, and
// other years, also those with the golden number 11 or 12.
func TestLabel(t *testing.T) {
	for _, x := range []struct{ calendar, year, want int }{
		{api.Gregorian, 1715, 25}, // golden number 6
		{api.Gregorian, 1734, 25},
		{api.Gregorian, 1886, 25},
		{api.Gregorian, 1916, 31}, // golden number 17
		{api.Gregorian, 1935, 31},
		{api.Gregorian, 1954, 31},
		{api.Gregorian, 2106, 31},
		{api.Gregorian, 5006, 25},        // golden number 10
		{api.Gregorian, 7515, 25},        // golden number 11
		{api.Gregorian, 3108, 31},        // golden number 12
		{api.Gregorian, 3241, 31},        // golden number 12
		{api.Gregorian, 5712, 31},        // golden number 13
		{api.Gregorian, 999_999_417, 25}, // golden number 6
		{api.Gregorian, 999_999_542, 31}, // golden number 17
		{api.Gregorian, 999_999_607, 25}, // golden number 6
		{api.Gregorian, 999_999_789, 31}, // golden number 17
		{api.Gregorian, 1915, 14},        // golden number 16
		{api.Gregorian, 1917, 6},         // golden number 18
		{api.Gregorian, 1726, 26},        // golden number 17
		{api.Gregorian, 1609, 24},        // golden number 14
		{api.Gregorian, 1879, 7},         // golden number 18
		{api.Gregorian, 1870, 28},        // golden number 9
		{api.Gregorian, 1710, 30},        // golden number 1
		{api.Gregorian, 1596, 1},         // golden number 1
		{api.Gregorian, 1981, 24},        // golden number 6
		{api.Gregorian, 2024, 19},        // golden number 11
		{api.Gregorian, 2025, 30},        // golden number 12
		{api.Gregorian, api.MaxYear, 16}, // golden number 19
		{api.Gregorian, api.FirstGregorian, 7},
		{api.Julian, api.MinYear, 19},
		{api.Julian, 2, 30},
		{api.Julian, 7, 25}, // golden number 8
		{api.Julian, 1584, 25},
		{api.Julian, 1583, 14},
		{api.Julian, 1916, 4},
		{api.Julian, 1954, 4},
		{api.Julian, 2000, 3},
		{api.Julian, 2013, 26},
		{api.Julian, api.MaxYear, 26},
	} {
		if got := pack(epact.Label(x.calendar, x.year)); got != found(x.want) {
			t.Errorf("Label(%d, %d) = %v, want %d", x.calendar, x.year, got, x.want)
		}
	}
}

// P7.1: the label is the epact, or 31 for 25 with a golden number greater than 11.
func TestLabelIsTheEpactOrTheVariant(t *testing.T) {
	plain, variants := 0, 0
	for _, calendar := range both() {
		for _, year := range spans(calendar) {
			want := pack(epact.Of(calendar, year))
			number, _ := golden.Golden(year)
			if want.n == 25 && number > 11 {
				want.n = 31
				variants++
			} else if want.n == 25 {
				plain++
			}
			if got := pack(epact.Label(calendar, year)); got != want || got.errno != api.OK {
				t.Fatalf("Label(%d, %d) = %v, want %v", calendar, year, got, want)
			}
		}
	}
	if plain == 0 || variants == 0 {
		t.Errorf("%d plain labels and %d variants", plain, variants)
	}
}

// check expects one result of both functions.
func check(t *testing.T, calendar, year int, want number) {
	if got := pack(epact.Of(calendar, year)); got != want {
		t.Errorf("Of(%d, %d) = %v, want %v", calendar, year, got, want)
	}
	if got := pack(epact.Label(calendar, year)); got != want {
		t.Errorf("Label(%d, %d) = %v, want %v", calendar, year, got, want)
	}
}

// P7.1: wrong calendars, also with years out of range, with the number 0.
func TestWrongCalendars(t *testing.T) {
	years := append(noYears(), beforeGregorian()...)
	for _, calendar := range noCalendars() {
		for _, year := range append(years, api.FirstGregorian, 1916, 2000, 2024, api.MaxYear) {
			check(t, calendar, year, failed(api.ErrArg))
		}
	}
}

// P7.1: years out of range, with the number 0.
func TestYearsOutOfRange(t *testing.T) {
	for _, calendar := range both() {
		for _, year := range noYears() {
			check(t, calendar, year, failed(api.ErrRange))
		}
	}
}

// P7.1: years that only the Julian calendar accepts.
func TestYearsBeforeTheGregorianOnes(t *testing.T) {
	for _, year := range beforeGregorian() {
		check(t, api.Gregorian, year, failed(api.ErrRange))
		if got := pack(epact.Of(api.Julian, year)); got.errno != api.OK || got.n < 1 || got.n > 30 {
			t.Errorf("Of(Julian, %d) = %v", year, got)
		}
		if got := pack(epact.Label(api.Julian, year)); got.errno != api.OK || got.n < 1 || got.n > 30 {
			t.Errorf("Label(Julian, %d) = %v", year, got)
		}
	}
}

// P7.1: the least and the greatest year of each calendar are next to one that
// it does not accept.
func TestEndsOfTheRange(t *testing.T) {
	for _, x := range []struct{ calendar, year, want int }{
		{api.Julian, api.MinYear, 19},
		{api.Julian, api.MaxYear, 26},
		{api.Gregorian, api.FirstGregorian, 7},
		{api.Gregorian, api.MaxYear, 16},
	} {
		check(t, x.calendar, x.year, found(x.want))
	}
	check(t, api.Julian, api.MinYear-1, failed(api.ErrRange))
	check(t, api.Julian, api.MaxYear+1, failed(api.ErrRange))
	check(t, api.Gregorian, api.FirstGregorian-1, failed(api.ErrRange))
	check(t, api.Gregorian, api.MaxYear+1, failed(api.ErrRange))
}

// P7.2: the labels from 1 to 31.
func TestName(t *testing.T) {
	for label := 1; label <= 31; label++ {
		want := strconv.Itoa(label)
		switch label {
		case 30:
			want = "*"
		case 31:
			want = "25'"
		}
		if got := epact.Name(label); got != want {
			t.Errorf("Name(%d) = %q, want %q", label, got, want)
		}
	}
	for label, want := range map[int]string{1: "1", 9: "9", 10: "10", 24: "24", 25: "25", 26: "26", 29: "29", 30: "*", 31: "25'"} {
		if got := epact.Name(label); got != want {
			t.Errorf("Name(%d) = %q, want %q", label, got, want)
		}
	}
}

// P7.2: numbers that are not labels.
func TestNameOfNoLabel(t *testing.T) {
	for _, label := range []int{0, 32, 33, 60, 61, 100, 256, 257, -1, -2, -25, -30, -31, 1 << 32, 1<<32 + 1, 1<<32 + 30, -1 << 32, -1<<32 + 31, least, least + 1, least + 30, most, most - 1} {
		if got := epact.Name(label); got != "" {
			t.Errorf("Name(%d) = %q, want the empty string", label, got)
		}
	}
}

// P7.2: different labels have different names.
func TestNamesAreDifferent(t *testing.T) {
	labels := map[string]int{}
	for label := 1; label <= 31; label++ {
		name := epact.Name(label)
		if other, known := labels[name]; known {
			t.Errorf("Name(%d) = Name(%d) = %q", label, other, name)
		}
		labels[name] = label
	}
}

// sameCorrections reports whether the corrections, if the calendar has some, are
// the same in two years.
func sameCorrections(calendar, a, b int) bool {
	if calendar == api.Julian {
		return true
	}
	return pack(golden.Solar(a)) == pack(golden.Solar(b)) && pack(golden.Lunar(a)) == pack(golden.Lunar(b))
}

// P7.3: consecutive years with consecutive golden numbers and the same
// corrections have epacts that differ by 11 modulo 30.
func TestConsecutiveYears(t *testing.T) {
	for _, calendar := range both() {
		checked, skipped := 0, 0
		for _, year := range spans(calendar) {
			number, _ := golden.Golden(year)
			if year == api.MaxYear || number == 19 || !sameCorrections(calendar, year, year+1) {
				skipped++
				continue
			}
			checked++
			before, _ := epact.Of(calendar, year)
			after := pack(epact.Of(calendar, year+1))
			if after.errno != api.OK || (after.n-before-11)%30 != 0 {
				t.Fatalf("Of(%d, %d) = %v after %d", calendar, year+1, after, before)
			}
		}
		if checked == 0 || skipped == 0 {
			t.Errorf("%d years of the calendar %d were checked, %d were not", checked, calendar, skipped)
		}
	}
}

// P7.3: in the Julian calendar the label is never 31, and different golden
// numbers have different epacts.
func TestJulianLabels(t *testing.T) {
	numbers := map[int]int{}
	for _, year := range spans(api.Julian) {
		number, _ := golden.Golden(year)
		of, _ := epact.Of(api.Julian, year)
		if label := pack(epact.Label(api.Julian, year)); label != found(of) || label.n == 31 {
			t.Fatalf("Label(Julian, %d) = %v, and the epact is %d", year, label, of)
		}
		if other, known := numbers[of]; known && other != number {
			t.Fatalf("the golden numbers %d and %d have the epact %d", number, other, of)
		}
		numbers[of] = number
	}
	if len(numbers) != 19 {
		t.Errorf("%d epacts, want 19", len(numbers))
	}
}
