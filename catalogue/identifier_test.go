package catalogue_test

import (
	"regexp"
	"strings"
	"testing"

	"computus/catalogue"
)

// words is the form of an identifier of any length.
var words = regexp.MustCompile(`\A[a-z][a-z0-9]*(-[a-z0-9]+)*\z`)

// isIdentifier writes the definition of the chapter out.
func isIdentifier(s string) bool {
	return words.MatchString(s) && len(s) <= 40
}

// expectIdentifier tests whether a string is an identifier.
func expectIdentifier(t *testing.T, s string, want bool) {
	t.Helper()
	if got := catalogue.Identifier(s); got != want {
		t.Errorf("Identifier(%q) = %v, want %v", s, got, want)
	}
}

// expectDefinition tests a string by the definition of the chapter.
func expectDefinition(t *testing.T, s string) {
	t.Helper()
	expectIdentifier(t, s, isIdentifier(s))
}

// P17.1: the examples of the chapter.
func TestIdentifierOfExamples(t *testing.T) {
	expectIdentifier(t, "st-john-2", true)
	for _, s := range []string{"2nd", "a--b", "a-", "A"} {
		expectIdentifier(t, s, false)
	}
}

// P17.1: identifiers as they occur.
func TestIdentifierOfKnownIdentifiers(t *testing.T) {
	for _, s := range []string{
		"joseph", "ordinary-time", "exaltation-of-the-cross", "mary-mother-of-god", "x", "a", "z", "a0", "a9", "z0", "z9",
		"a-b", "a-0", "a-9", "a-2nd", "a2-b", "a2-2", "a-b-c-d-e-f", "a-1-2-3", "a1b2c3", "a0123456789", "abcdefghijklmnopqrstuvwxyz", "st-john-23",
	} {
		expectIdentifier(t, s, true)
	}
}

// P17.1: the empty string, and strings of 1, 39, 40, 41 and more characters.
func TestIdentifierOfLengths(t *testing.T) {
	expectIdentifier(t, "", false)
	for n := 1; n <= 1000; n++ {
		expectIdentifier(t, strings.Repeat("a", n), n <= 40)
		expectIdentifier(t, "a"+strings.Repeat("7", n-1), n <= 40)
		expectIdentifier(t, strings.Repeat("a-", n)+"b", n <= 19)
		expectIdentifier(t, strings.Repeat("a-", n)+"bc", n <= 19)
	}
	// The lengths are small if they are taken modulo 2^8 or 2^16.
	for _, n := range []int{1 << 8, 1<<8 + 1, 1<<8 + 40, 1 << 16, 1<<16 + 1, 1<<16 + 40, 1 << 20} {
		expectIdentifier(t, strings.Repeat("a", n), false)
	}
}

// P17.1: hyphens and digits at the end of strings of 40 and 41 characters.
func TestIdentifierAtTheGreatestLength(t *testing.T) {
	for _, x := range []struct {
		end            string
		forty, longest bool
	}{
		{"a", true, false}, {"0", true, false}, {"-a", true, false}, {"-0", true, false}, {"0-9", true, false}, {"a-b-c", true, false},
		{"-", false, false}, {"a-", false, false}, {"--", false, false}, {"--a", false, false}, {"A", false, false}, {" ", false, false},
	} {
		expectIdentifier(t, strings.Repeat("x", 39-len(x.end))+x.end, x.forty)
		expectIdentifier(t, strings.Repeat("x", 40-len(x.end))+x.end, x.forty)
		expectIdentifier(t, strings.Repeat("x", 41-len(x.end))+x.end, x.longest)
	}
	expectIdentifier(t, strings.Repeat("x", 40)+"-", false)
	expectIdentifier(t, strings.Repeat("x", 40)+"-a", false)
}

// P17.1: characters of more than one byte count neither as letters nor as digits,
// so that a string is not an identifier however its length is counted.
func TestIdentifierOfLengthsInBytes(t *testing.T) {
	for _, n := range []int{1, 2, 13, 20, 39, 40, 41} {
		for _, c := range []string{"é", "ß", "а", "中", "😀"} {
			expectIdentifier(t, strings.Repeat(c, n), false)
			expectIdentifier(t, "a"+strings.Repeat(c, n-1), n == 1)
		}
	}
}

// P17.1: hyphens in front, in the middle and at the end.
func TestIdentifierOfHyphens(t *testing.T) {
	for _, s := range []string{
		"-", "--", "---", "-a", "--a", "---a", "a-", "a--", "a---", "-a-", "a--b", "a---b", "a----b", "a-b-", "a-b--c", "a--b-c", "-a-b",
		"-1", "1-", "1-a", "-1-a", "a-1-", "a--1", "a-1--2", "a1-", "a1--b",
	} {
		expectIdentifier(t, s, false)
	}
	for _, s := range []string{"a-b", "a-b-c", "a-1", "a-1-b", "a1-1", "a-1a", "a-00", "a0-0"} {
		expectIdentifier(t, s, true)
	}
}

// P17.1: digits in front, also of later words.
func TestIdentifierOfDigits(t *testing.T) {
	for digit := '0'; digit <= '9'; digit++ {
		d := string(digit)
		for _, s := range []string{d, d + "a", d + d, d + "-a", "-" + d, "-" + d + "a"} {
			expectIdentifier(t, s, false)
		}
		for _, s := range []string{"a" + d, "a" + d + "b", "a-" + d, "a-" + d + "b", "a-b" + d, "a" + d + "-b"} {
			expectIdentifier(t, s, true)
		}
	}
}

// P17.1: the bytes next to a, z, 0, 9 and the hyphen, and others that are neither
// letters nor digits nor hyphens.
func TestIdentifierOfOtherBytes(t *testing.T) {
	for _, c := range []string{
		"`", "{", "/", ":", ",", ".", "@", "[", "A", "Z", "M", "_", "+", " ", "\t", "\n", "\r", "\x00", "\x01", "\x7f", "\x80", "\xad", "\xe1", "\xff", "\xc3",
	} {
		for _, s := range []string{c, c + "a", "a" + c, "a" + c + "b", "a-" + c, c + "-a", "a-" + c + "b", "ab-cd" + c + "-ef", "a" + c + c + "b"} {
			expectIdentifier(t, s, false)
		}
	}
}

// P17.1: every byte in front, in the middle and at the end, next to letters,
// digits and hyphens.
func TestIdentifierOfEveryByte(t *testing.T) {
	for b := range 256 {
		c := string([]byte{byte(b)})
		for _, around := range [][2]string{
			{"", ""}, {"", "a"}, {"a", ""}, {"a", "b"}, {"a", "-b"}, {"a-", ""}, {"a-", "b"}, {"", "-b"}, {"", "1"}, {"1", ""}, {"a1", "2"},
			{"a-1", ""}, {"a-", "1"}, {"st-john", "2"}, {strings.Repeat("x", 39), ""}, {strings.Repeat("x", 40), ""}, {"", strings.Repeat("x", 39)},
			{"", strings.Repeat("x", 40)}, {strings.Repeat("x", 20), strings.Repeat("x", 19)}, {strings.Repeat("x", 20), strings.Repeat("x", 20)},
		} {
			expectDefinition(t, around[0]+c+around[1])
		}
	}
}

// P17.1: characters of more than one byte. Each of the first ones ends, as a
// number, in the byte of a letter, a digit or a hyphen; the others are letters,
// digits and hyphens of other scripts, and bytes that are not UTF-8.
func TestIdentifierOfOtherCharacters(t *testing.T) {
	for _, c := range []string{
		"\u0161", "\u017a", "\u0430", "\u0139", "\u012d", "\U00010061", "\U00010030", "\U0001002d", "\u6161",
		"\u00e9", "\u00fc", "\u00df", "\u00aa", "\u0131", "\u03b1", "\u0660", "\u0967", "\u00b2", "\u00bd", "\uff41", "\uff11", "\uff0d",
		"\u2010", "\u2011", "\u2013", "\u2212", "\u00ad", "\u00a0", "\u200b", "\ufeff", "\ufffd", "\u0301", "\u212a", "\U0010ffff",
		"\xff", "\xc1\xa1", "\xe0\x81\xa1", "\xc3", "\xe2\x80", "\xed\xa0\x80", "\xf4\x90\x80\x80",
	} {
		for _, s := range []string{c, c + "a", "a" + c, "a" + c + "b", "a-" + c, "a-" + c + "b", "a" + c + "-b", "a1" + c} {
			expectIdentifier(t, s, false)
		}
	}
}

// P17.1: no character beyond the first 128 is in an identifier.
func TestIdentifierOfEveryCharacter(t *testing.T) {
	for c := rune(0); c <= 0x10ffff; c++ {
		for _, s := range []string{string(c), "a" + string(c) + "b"} {
			if catalogue.Identifier(s) != isIdentifier(s) {
				t.Fatalf("Identifier(%q) = %v", s, !isIdentifier(s))
			}
		}
	}
}

// P17.1: all strings of up to seven characters of a few kinds.
func TestIdentifierOfShortStrings(t *testing.T) {
	shorter := []string{""}
	for range 7 {
		var l []string
		for _, s := range shorter {
			for _, c := range []string{"a", "z", "5", "-", "Q", "é"} {
				l = append(l, s+c)
			}
		}
		for _, s := range l {
			expectDefinition(t, s)
		}
		shorter = l
	}
}
