package linescan_test

import (
	"regexp"
	"strconv"
	"strings"
	"testing"

	"computus/linescan"
)

// expectNumberOf tests that a scanner of a text accepts a number that has some bytes.
func expectNumberOf(t *testing.T, text string, want, bytes int) {
	t.Helper()
	x := linescan.New(text)
	expectNumber(t, x, want)
	expectGood(t, x, bytes)
}

// expectNoNumber tests that a scanner of a text fails at an offset.
func expectNoNumber(t *testing.T, text string, offset int) {
	t.Helper()
	x := linescan.New(text)
	expectNumber(t, x, 0)
	expectFailed(t, x, offset)
}

// number is the form of a number.
var number = regexp.MustCompile(`\A(0|-?[1-9][0-9]{0,9})`)

// expectNumberByDefinition tests what a scanner of a text does.
func expectNumberByDefinition(t *testing.T, text string) {
	t.Helper()
	switch s := number.FindString(text); {
	case s != "":
		want, _ := strconv.ParseInt(s, 10, 64)
		expectNumberOf(t, text, int(want), len(s))
	case strings.HasPrefix(text, "-"):
		expectNoNumber(t, text, 1)
	default:
		expectNoNumber(t, text, 0)
	}
}

// P25.3: 0, which no digit follows: further ones are left.
func TestNumberOfZero(t *testing.T) {
	for _, text := range []string{"0", "00", "01", "05", "0000000000", "01234567890", "0-1", "0 ", "0\n", "0a", "0.5", "0\xff"} {
		expectNumberOf(t, text, 0, 1)
	}
}

// P25.3: the digits behind a 0 are a number of their own.
func TestNumbersBehindZero(t *testing.T) {
	x := linescan.New("0012-30-4")
	for i, want := range []int{0, 0, 12, -30, -4} {
		expectNumber(t, x, want)
		expectGood(t, x, []int{1, 2, 4, 7, 9}[i])
	}
	x.End()
	expectGood(t, x, 9)
}

// P25.3: numbers of one digit.
func TestNumberOfOneDigit(t *testing.T) {
	for n := 1; n <= 9; n++ {
		s := strconv.Itoa(n)
		expectNumberOf(t, s, n, 1)
		expectNumberOf(t, "-"+s, -n, 2)
		expectNumberOf(t, s+" ", n, 1)
		expectNumberOf(t, "-"+s+"-", -n, 2)
	}
}

// P25.3: numbers of 1 to 12 digits, of which the eleventh and further ones are left.
func TestNumberOfManyDigits(t *testing.T) {
	for n := 1; n <= 12; n++ {
		s := "987654321012"[:n]
		accepted := s[:min(n, 10)]
		value, _ := strconv.Atoi(accepted)
		for _, end := range []string{"", " ", "\n", "a", "-", "-1"} {
			expectNumberOf(t, s+end, value, len(accepted))
			expectNumberOf(t, "-"+s+end, -value, len(accepted)+1)
		}
	}
}

// P25.3: the greatest and the least numbers, and those of ten digits next to others.
func TestNumberOfTenDigits(t *testing.T) {
	for _, n := range []int{9999999999, 9999999998, 1000000000, 1000000001, 4294967295, 4294967296, 4294967297, 2147483647, 2147483648, 2147483649} {
		s := strconv.Itoa(n)
		expectNumberOf(t, s, n, 10)
		expectNumberOf(t, s+"0", n, 10)
		expectNumberOf(t, s+"9", n, 10)
		expectNumberOf(t, s+" ", n, 10)
		expectNumberOf(t, "-"+s, -n, 11)
		expectNumberOf(t, "-"+s+"0", -n, 11)
		expectNumberOf(t, "-"+s+"9", -n, 11)
	}
	expectNumberOf(t, "999999999", 999999999, 9)
	expectNumberOf(t, "-999999999", -999999999, 10)
	expectNumberOf(t, strings.Repeat("9", 1000), 9999999999, 10)
	expectNumberOf(t, "-"+strings.Repeat("9", 1000), -9999999999, 11)
}

// P25.3: the eleventh digit is the first byte of what is left.
func TestNumberLeavesFurtherDigits(t *testing.T) {
	x := linescan.New("-12345678901234567890555")
	expectNumber(t, x, -1234567890)
	expectPeek(t, x, '1')
	expectNumber(t, x, 1234567890)
	expectNumber(t, x, 555)
	expectGood(t, x, 24)
}

// P25.3: a hyphen that no digit from 1 to 9 follows: the scanner fails behind it.
func TestNumberOfHyphens(t *testing.T) {
	for _, text := range []string{"-", "-0", "-01", "--", "--1", "-a", "- 1", "-\n", "-\x00", "-+1", "-/", "-:", "-\xb1", "-\xff"} {
		expectNoNumber(t, text, 1)
	}
}

// P25.3: texts that do not begin with a number: the scanner fails in front.
func TestNumberOfOtherBytes(t *testing.T) {
	for _, text := range []string{
		"", " ", " 1", "  1", "\t1", "\n1", "+", "+1", "+0", "a", "a1", "/1", ":1", ".5", ",5", "e1", "x10", "_1", "\x001", "\xb11", "\u0661", "\uff11", "\u22121", "–1", "İ",
	} {
		expectNoNumber(t, text, 0)
	}
}

// P25.3: a number ends at any byte that is no digit, also one that other notations
// have within numbers.
func TestNumberEndsAtOtherBytes(t *testing.T) {
	for b := range 256 {
		c := string([]byte{byte(b)})
		for _, text := range []string{c, c + "5", "1" + c, "1" + c + "5", "-" + c, "-" + c + "5", "-7" + c, "0" + c, "12" + c + "3", "123456789" + c, "1234567890" + c, "-123456789" + c + "1"} {
			expectNumberByDefinition(t, text)
		}
	}
	for _, text := range []string{"1_000", "1e3", "0x10", "0b1", "0o7", "1,000", "1.0", "1 000", "1+1"} {
		expectNumberByDefinition(t, text)
	}
}

// P25.3: all texts of up to six bytes of a few kinds.
func TestNumberOfShortTexts(t *testing.T) {
	for _, text := range textsOf("0-19 ", 6) {
		expectNumberByDefinition(t, text)
	}
}

// P25.3: the numbers from -2000 to 2000, and a number of each length next to a power
// of ten.
func TestNumberOfValues(t *testing.T) {
	expect := func(n int) {
		s := strconv.Itoa(n)
		expectNumberOf(t, s, n, len(s))
		expectNumberOf(t, s+" 1", n, len(s))
	}
	for n := -2000; n <= 2000; n++ {
		expect(n)
	}
	for power := 1; power <= 1000000000; power *= 10 {
		for _, n := range []int{power - 1, power, power + 1} {
			expect(n)
			expect(-n)
		}
	}
}

// P25.3: a scanner fails at the offset in its text, not in the number.
func TestNumberFailsBehindOthers(t *testing.T) {
	x := linescan.New("7 -")
	expectNumber(t, x, 7)
	expectWord(t, x, 0, " ")
	expectNumber(t, x, 0)
	expectFailed(t, x, 3)
	x = linescan.New("7  8")
	expectNumber(t, x, 7)
	expectWord(t, x, 0, " ")
	expectNumber(t, x, 0)
	expectFailed(t, x, 2)
}
