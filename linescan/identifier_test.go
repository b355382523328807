package linescan_test

import (
	"regexp"
	"strings"
	"testing"

	"computus/catalogue"
	"computus/linescan"
)

// expectIdentifierOf tests that a scanner of a text accepts an identifier.
func expectIdentifierOf(t *testing.T, text, want string) {
	t.Helper()
	x := linescan.New(text)
	expectIdentifier(t, x, want)
	expectGood(t, x, len(want))
	if !catalogue.Identifier(want) {
		t.Errorf("%q is not an identifier of layer 17", want)
	}
}

// expectNoIdentifier tests that a scanner of a text fails at an offset.
func expectNoIdentifier(t *testing.T, text string, offset int) {
	t.Helper()
	x := linescan.New(text)
	expectIdentifier(t, x, "")
	expectFailed(t, x, offset)
}

// beginning is the form of a prefix of an identifier of any length.
var beginning = regexp.MustCompile(`\A([a-z][a-z0-9]*(-[a-z0-9]+)*-?)?`)

// expectIdentifierByDefinition tests what a scanner of a text does.
func expectIdentifierByDefinition(t *testing.T, text string) {
	t.Helper()
	s := beginning.FindString(text)
	if len(s) >= 40 {
		s = strings.TrimSuffix(s[:40], "-")
	}
	if s == "" || strings.HasSuffix(s, "-") {
		expectNoIdentifier(t, text, len(s))
	} else {
		expectIdentifierOf(t, text, s)
	}
}

// letters returns an identifier of letters only.
func letters(n int) string {
	return strings.Repeat("x", n)
}

// P25.3: identifiers as they occur, at the end of the text and before other bytes.
func TestIdentifierOfKnownIdentifiers(t *testing.T) {
	for _, id := range []string{
		"a", "z", "x", "joseph", "lent", "a0", "z9", "a1b2c3", "ordinary-time", "st-john-2", "exaltation-of-the-cross", "a-b-c-d-e", "a-2nd", "a-0-0",
		"abcdefghijklmnopqrstuvwxyz", "a0123456789", "a-0123456789",
	} {
		for _, end := range []string{"", " ", " 7", "\n", "A", "_", ".", "\x00", "\xff", "é", "+"} {
			expectIdentifierOf(t, id+end, id)
		}
	}
}

// P25.3: one letter, for all letters, digits and capital letters.
func TestIdentifierOfOneByte(t *testing.T) {
	for b := range 256 {
		s := string([]byte{byte(b)})
		if b >= 'a' && b <= 'z' {
			expectIdentifierOf(t, s, s)
		} else {
			expectNoIdentifier(t, s, 0)
		}
	}
}

// P25.3: a digit, a hyphen or another byte in front: the scanner fails there.
func TestIdentifierOfOtherFirstBytes(t *testing.T) {
	for _, text := range []string{"", "0", "9a", "2nd", "-", "-a", "--a", "A", "Abc", " a", "\na", "\x00a", "_a", "`a", "{a", "\xe1a", "éa", "ａ"} {
		expectNoIdentifier(t, text, 0)
	}
}

// P25.3: capital letters end an identifier.
func TestIdentifierBeforeCapitalLetters(t *testing.T) {
	expectIdentifierOf(t, "aB", "a")
	expectIdentifierOf(t, "abCd", "ab")
	expectIdentifierOf(t, "a-bC", "a-b")
	expectIdentifierOf(t, "a1Z", "a1")
}

// P25.3: a hyphen that neither a letter nor a digit follows: the scanner fails
// behind it.
func TestIdentifierOfHyphens(t *testing.T) {
	for _, id := range []string{"a", "ab", "a1", "a-b", "a-1", "st-john-2", letters(37), letters(38), letters(18) + "-" + letters(19)} {
		for _, end := range []string{"", "-", "--", "-a", " ", " a", "A", "Z", "_", "\n", "\x00", "\xff", "é", "+", ".", "/", ":", "`", "{"} {
			expectNoIdentifier(t, id+"-"+end, len(id)+1)
		}
		expectIdentifierOf(t, id+"-"+"a", (id + "-a"))
		expectIdentifierOf(t, id+"-"+"0", (id + "-0"))
	}
}

// P25.3: 39, 40, 41 and more letters or digits, of which those behind the fortieth
// byte are left.
func TestIdentifierOfLengths(t *testing.T) {
	for n := 1; n <= 100; n++ {
		most := min(n, 40)
		for _, end := range []string{"", " ", "\n", "A"} {
			expectIdentifierOf(t, letters(n)+end, letters(most))
			expectIdentifierOf(t, "x"+strings.Repeat("7", n-1)+end, "x"+strings.Repeat("7", most-1))
		}
	}
	expectIdentifierOf(t, letters(1<<20), letters(40))
	expectIdentifierOf(t, strings.Repeat("a-", 100)+"a", strings.Repeat("a-", 19)+"a")
	expectIdentifierOf(t, "aa-"+strings.Repeat("a-", 100), "aa-"+strings.Repeat("a-", 18)+"a")
}

// P25.3: what is left behind an identifier of 40 bytes is not accepted, even if it
// would begin another one.
func TestIdentifierLeavesFurtherBytes(t *testing.T) {
	x := linescan.New(letters(40) + "y2")
	expectIdentifier(t, x, letters(40))
	expectPeek(t, x, 'y')
	expectIdentifier(t, x, "y2")
	expectGood(t, x, 42)
	x = linescan.New(letters(40) + "2")
	expectIdentifier(t, x, letters(40))
	expectIdentifier(t, x, "")
	expectFailed(t, x, 40)
}

// P25.3: a hyphen as the 39th byte.
func TestIdentifierOfHyphenAs39thByte(t *testing.T) {
	id := letters(38)
	for _, end := range []string{"a", "z", "0", "9"} {
		expectIdentifierOf(t, id+"-"+end, id+"-"+end)
		expectIdentifierOf(t, id+"-"+end+end, id+"-"+end)
		expectIdentifierOf(t, id+"-"+end+"-a", id+"-"+end)
	}
	for _, end := range []string{"", "-", " ", "A", "-a"} {
		expectNoIdentifier(t, id+"-"+end, 39)
	}
}

// P25.3: a hyphen as the 40th byte is not accepted, but the 39 bytes before it are,
// whatever follows.
func TestIdentifierOfHyphenAs40thByte(t *testing.T) {
	for _, id := range []string{letters(39), letters(20) + "-" + letters(18), "x" + strings.Repeat("5", 38)} {
		for _, end := range []string{"", "a", "0", "ab", "-", " ", "A"} {
			expectIdentifierOf(t, id+"-"+end, id)
		}
	}
	expectNoIdentifier(t, letters(37)+"--a", 38)
}

// P25.3: a hyphen as the 41st byte is left.
func TestIdentifierOfHyphenAs41stByte(t *testing.T) {
	for _, id := range []string{letters(40), letters(20) + "-" + letters(19), letters(38) + "-7"} {
		for _, end := range []string{"", "a", "0", "-", " "} {
			expectIdentifierOf(t, id+"-"+end, id)
		}
	}
}

// P25.3: each byte in front, in the middle and at the end, also near the greatest
// length.
func TestIdentifierOfEveryByte(t *testing.T) {
	for b := range 256 {
		c := string([]byte{byte(b)})
		for _, around := range [][2]string{
			{"", "a"}, {"", "-a"}, {"", "1"}, {"a", ""}, {"a", "b"}, {"a", "-b"}, {"a-", ""}, {"a-", "b"}, {"a1", "2"}, {"a-1", ""}, {"a-b", "-c"},
			{letters(37), "ab"}, {letters(38), "ab"}, {letters(39), "ab"}, {letters(40), "ab"}, {letters(37) + "-", "a"}, {letters(38) + "-", "a"}, {letters(39) + "-", "a"},
		} {
			expectIdentifierByDefinition(t, around[0]+c+around[1])
		}
	}
}

// P25.3: all texts of up to seven bytes of a few kinds, alone and behind 34 letters,
// so that they reach the greatest length.
func TestIdentifierOfShortTexts(t *testing.T) {
	for _, text := range textsOf("a5-Q", 7) {
		expectIdentifierByDefinition(t, text)
		expectIdentifierByDefinition(t, letters(34)+text)
		expectIdentifierByDefinition(t, letters(32)+"-"+text)
	}
}

// P25.3: what is accepted is the longest prefix of the text that is an identifier of
// layer 17, and a scanner fails if there is none or if a hyphen follows that is a
// part of longer ones.
func TestIdentifierOfLayer17(t *testing.T) {
	for _, text := range textsOf("b0- ", 6) {
		longest := 0
		for n := range len(text) + 1 {
			if catalogue.Identifier(text[:n]) {
				longest = n
			}
		}
		switch {
		case longest == 0:
			expectNoIdentifier(t, text, 0)
		case strings.HasPrefix(text[longest:], "-"):
			expectNoIdentifier(t, text, longest+1)
		default:
			expectIdentifierOf(t, text, text[:longest])
		}
	}
}

// P25.3: a scanner fails at the offset in its text, not in the identifier.
func TestIdentifierFailsBehindOthers(t *testing.T) {
	x := linescan.New("lent a- b")
	expectIdentifier(t, x, "lent")
	expectWord(t, x, 0, " ")
	expectIdentifier(t, x, "")
	expectFailed(t, x, 7)
	x = linescan.New("lent 2nd")
	expectIdentifier(t, x, "lent")
	expectWord(t, x, 0, " ")
	expectIdentifier(t, x, "")
	expectFailed(t, x, 5)
}
