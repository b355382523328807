package query_test

import (
	"testing"

	"computus/api"
	"computus/query"
)

// lastDated is the last year whose Orthodox Easter has a Gregorian date.
const lastDated = 999_979_466

// methods are the methods that there are.
var methods = []int{api.ByTable, api.ByGauss, api.ByButcher}

// noNumbers are numbers that are no calendar and no method.
var noNumbers = []int{0, -1, -2, -3, 4, 5, 1<<8 + 1, 1<<32 + 1, 1<<32 + 2, -1<<32 + 1, 1 << 62, least, least + 1, least + 2, most, most - 1}

// P28.2: known Easters, and the first and the last year of the range of each layer
// and the years next to it, by each method.
func TestEaster(t *testing.T) {
	for _, c := range []struct {
		calendar, year int
		want           query.Answer
	}{
		{api.Gregorian, 1583, answered("1583 4 10")}, {api.Gregorian, 1584, answered("1584 4 1")}, {api.Gregorian, 1585, answered("1585 4 21")},
		{api.Gregorian, 1818, answered("1818 3 22")}, {api.Gregorian, 1943, answered("1943 4 25")}, {api.Gregorian, 1954, answered("1954 4 18")}, {api.Gregorian, 1981, answered("1981 4 19")},
		{api.Gregorian, 2000, answered("2000 4 23")}, {api.Gregorian, 2008, answered("2008 3 23")}, {api.Gregorian, 2024, answered("2024 3 31")},
		{api.Gregorian, api.MaxYear - 1, answered("999999999 4 11")}, {api.Gregorian, api.MaxYear, answered("1000000000 4 2")},
		{api.Gregorian, 1582, refused(api.ErrRange)}, {api.Gregorian, 1, refused(api.ErrRange)}, {api.Gregorian, 0, refused(api.ErrRange)}, {api.Gregorian, -2024, refused(api.ErrRange)},
		{api.Gregorian, api.MaxYear + 1, refused(api.ErrRange)}, {api.Gregorian, 1<<32 + 2024, refused(api.ErrRange)}, {api.Gregorian, most, refused(api.ErrRange)}, {api.Gregorian, least, refused(api.ErrRange)},
		{api.Julian, 1, answered("1 3 27")}, {api.Julian, 2, answered("2 4 16")}, {api.Julian, 3, answered("3 4 8")}, {api.Julian, 1582, answered("1582 4 15")}, {api.Julian, 1583, answered("1583 3 31")},
		{api.Julian, 2000, answered("2000 4 17")}, {api.Julian, 2024, answered("2024 4 22")}, {api.Julian, api.MaxYear - 1, answered("999999999 4 2")}, {api.Julian, api.MaxYear, answered("1000000000 4 21")},
		{api.Julian, 0, refused(api.ErrRange)}, {api.Julian, -1, refused(api.ErrRange)}, {api.Julian, api.MaxYear + 1, refused(api.ErrRange)}, {api.Julian, most, refused(api.ErrRange)}, {api.Julian, least, refused(api.ErrRange)},
	} {
		for _, method := range methods {
			expect(t, easterQuery(c.calendar, method, c.year), c.want)
		}
	}
}

// P28.2: methods that are none, in both calendars and with a calendar that is none, in
// years of each range and outside of it: the error is ErrArg, not ErrRange.
func TestEasterByOtherMethods(t *testing.T) {
	for _, method := range noNumbers {
		for _, calendar := range append(noNumbers, api.Julian, api.Gregorian) {
			for _, year := range []int{least, 0, 1, 1582, 1583, 2024, api.MaxYear, api.MaxYear + 1, most} {
				expect(t, easterQuery(calendar, method, year), refused(api.ErrArg))
			}
		}
	}
}

// P28.2: calendars that are none, in years of each range and outside of it.
func TestEasterOfOtherCalendars(t *testing.T) {
	for _, calendar := range append(noNumbers, 3) {
		for _, method := range methods {
			for _, year := range []int{least, 0, 1, 1582, 1583, 2024, api.MaxYear, api.MaxYear + 1, most} {
				expect(t, easterQuery(calendar, method, year), refused(api.ErrArg))
			}
		}
	}
}

// manyYears lists all of the first and the last years from a first one to MaxYear, and
// many in between.
func manyYears(first int) []int {
	var l []int
	for i := range 4000 {
		l = append(l, first+i, api.MaxYear-i, 570_000+i)
	}
	for year := first; year <= api.MaxYear; year += 199_999 {
		l = append(l, year)
	}
	return l
}

// P28.4: the three methods have the same answer, which has no error.
func TestMethodsHaveTheSameAnswer(t *testing.T) {
	for calendar, first := range map[int]int{api.Julian: api.MinYear, api.Gregorian: api.FirstGregorian} {
		for _, year := range manyYears(first) {
			want := query.Ask(easterQuery(calendar, api.ByTable, year))
			if want.Err != api.OK {
				t.Errorf("the answer for %d is %+v", year, want)
			}
			expect(t, easterQuery(calendar, api.ByGauss, year), want)
			expect(t, easterQuery(calendar, api.ByButcher, year), want)
		}
	}
}

// P28.2: known Orthodox Easters, and the first and the last years that have one, with
// the years next to them.
func TestOrthodox(t *testing.T) {
	for _, c := range []struct {
		year int
		want query.Answer
	}{
		{1, answered("1 3 25")}, {2, answered("2 4 14")}, {1582, answered("1582 4 25")}, {1583, answered("1583 4 10")}, {1641, answered("1641 5 5")}, {2000, answered("2000 4 30")}, {2010, answered("2010 4 4")}, {2024, answered("2024 5 5")}, {2078, answered("2078 5 8")},
		{lastDated - 1, answered("999999999 2 21")}, {lastDated, answered("1000000000 2 6")},
		{lastDated + 1, refused(api.ErrRange)}, {api.MaxYear - 1, refused(api.ErrRange)}, {api.MaxYear, refused(api.ErrRange)}, {api.MaxYear + 1, refused(api.ErrRange)},
		{0, refused(api.ErrRange)}, {-1, refused(api.ErrRange)}, {-2024, refused(api.ErrRange)}, {1<<32 + 2024, refused(api.ErrRange)}, {least, refused(api.ErrRange)}, {most, refused(api.ErrRange)},
	} {
		expect(t, orthodoxQuery(c.year), c.want)
	}
}

// P28.2: Orthodox Easter is the Julian one in the other calendar.
func TestOrthodoxIsConverted(t *testing.T) {
	for year := api.MinYear; year <= lastDated; year += 99_991 {
		a := query.Ask(orthodoxQuery(year))
		if back := query.Ask(convertQuery(api.Gregorian, dateOf(t, a))); back != query.Ask(easterQuery(api.Julian, api.ByTable, year)) {
			t.Errorf("Orthodox Easter of %d is %+v, which is the Julian date %+v", year, a, back)
		}
	}
}
