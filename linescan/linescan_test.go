package linescan_test

import (
	"strings"
	"testing"

	"computus/api"
	"computus/linescan"
)

// expectGood tests that a scanner is good and has an offset.
func expectGood(t *testing.T, x *linescan.Scanner, offset int) {
	t.Helper()
	expectState(t, x, offset, api.OK)
}

// expectFailed tests that a scanner has failed at an offset.
func expectFailed(t *testing.T, x *linescan.Scanner, offset int) {
	t.Helper()
	expectState(t, x, offset, api.ErrSyntax)
}

func expectState(t *testing.T, x *linescan.Scanner, offset int, errno api.Errno) {
	t.Helper()
	if got := x.Offset(); got != offset {
		t.Errorf("Offset() = %d, want %d", got, offset)
	}
	if got := x.Err(); got != errno {
		t.Errorf("Err() = %d, want %d", got, errno)
	}
}

// expectWord tests the index of the word that a scanner accepts.
func expectWord(t *testing.T, x *linescan.Scanner, want int, words ...string) {
	t.Helper()
	if got := x.Word(words...); got != want {
		t.Errorf("Word(%q) = %d, want %d", words, got, want)
	}
}

// expectNumber tests the number that a scanner accepts.
func expectNumber(t *testing.T, x *linescan.Scanner, want int) {
	t.Helper()
	if got := x.Number(); got != want {
		t.Errorf("Number() = %d, want %d", got, want)
	}
}

// expectIdentifier tests the identifier that a scanner accepts.
func expectIdentifier(t *testing.T, x *linescan.Scanner, want string) {
	t.Helper()
	if got := x.Identifier(); got != want {
		t.Errorf("Identifier() = %q, want %q", got, want)
	}
}

// expectPeek tests the next byte of a scanner.
func expectPeek(t *testing.T, x *linescan.Scanner, want byte) {
	t.Helper()
	if got := x.Peek(); got != want {
		t.Errorf("Peek() = %q, want %q", got, want)
	}
}

// expectNothing tests that the methods of a scanner that is nil or has failed return
// zero values and change nothing, whatever their order.
func expectNothing(t *testing.T, x *linescan.Scanner) {
	t.Helper()
	offset := x.Offset()
	for range 2 {
		expectWord(t, x, -1, "a", "b")
		expectFailed(t, x, offset)
		expectWord(t, x, -1)
		expectFailed(t, x, offset)
		expectWord(t, x, -1, " ")
		expectFailed(t, x, offset)
		expectNumber(t, x, 0)
		expectFailed(t, x, offset)
		expectIdentifier(t, x, "")
		expectFailed(t, x, offset)
		expectPeek(t, x, 0)
		expectFailed(t, x, offset)
		x.End()
		expectFailed(t, x, offset)
	}
}

// P25.1, P25.2, P25.3: the first example of the chapter.
func TestScannerOfTheExample(t *testing.T) {
	x := linescan.New("fixed 12")
	expectWord(t, x, 1, "feast", "fixed")
	expectGood(t, x, 5)
	expectWord(t, x, 0, " ")
	expectGood(t, x, 6)
	expectNumber(t, x, 12)
	expectGood(t, x, 8)
	x.End()
	expectGood(t, x, 8)
}

// P25.1, P25.2: the second example of the chapter.
func TestScannerOfTheFailingExample(t *testing.T) {
	x := linescan.New("fex")
	expectWord(t, x, -1, "feast", "fixed")
	expectFailed(t, x, 2)
}

// P25.1: a new scanner is good and has the offset 0, whatever its text is.
func TestNew(t *testing.T) {
	for _, s := range []string{
		"", "a", " ", "\n", "\x00", "\xff", "0", "-", "calendar 2024\n", strings.Repeat("a", 1<<20), strings.Repeat("\x80", 1<<16),
	} {
		x := linescan.New(s)
		if x == nil {
			t.Fatalf("New(%.20q) is nil", s)
		}
		expectGood(t, x, 0)
	}
}

// P25.1: the scanner has the text from its first byte to its last.
func TestNewHasTheText(t *testing.T) {
	for _, s := range []string{"a", "abc", "\x00\x01\xff", strings.Repeat("abc\n", 1<<14), "äöü €"} {
		x := linescan.New(s)
		expectWord(t, x, 0, s)
		expectGood(t, x, len(s))
		x.End()
		expectGood(t, x, len(s))
	}
}

// P25.1: the methods Offset and Err change nothing, and Err stays OK until the
// scanner fails.
func TestOffsetAndErr(t *testing.T) {
	x := linescan.New("ab 7")
	for range 3 {
		expectGood(t, x, 0)
	}
	expectIdentifier(t, x, "ab")
	for range 3 {
		expectGood(t, x, 2)
	}
	expectNumber(t, x, 0)
	for range 3 {
		expectFailed(t, x, 2)
	}
}

// Nil scanners: Err is ErrSyntax, and all other methods return zero values, but Word
// returns -1.
func TestNilScanner(t *testing.T) {
	var x *linescan.Scanner
	expectFailed(t, x, 0)
	expectNothing(t, x)
}

// Failed scanners: they remain as they are, whichever method has failed, even if the
// next bytes are ones that the methods would accept.
func TestFailedScanner(t *testing.T) {
	for _, x := range []struct {
		text   string
		fail   func(x *linescan.Scanner)
		offset int
	}{
		{"a", func(x *linescan.Scanner) { x.Word("b") }, 0},
		{" a", func(x *linescan.Scanner) { x.Word("b") }, 0},
		{"", func(x *linescan.Scanner) { x.Word("b") }, 0},
		{"ab", func(x *linescan.Scanner) { x.Word("aa", "ac") }, 1},
		{"abc", func(x *linescan.Scanner) { x.Word("abcd") }, 3},
		{"a", func(x *linescan.Scanner) { x.Number() }, 0},
		{"-a", func(x *linescan.Scanner) { x.Number() }, 1},
		{"-", func(x *linescan.Scanner) { x.Number() }, 1},
		{"7", func(x *linescan.Scanner) { x.Identifier() }, 0},
		{"a- a", func(x *linescan.Scanner) { x.Identifier() }, 2},
		{"", func(x *linescan.Scanner) { x.Identifier() }, 0},
		{"a", func(x *linescan.Scanner) { x.End() }, 0},
		{"7", func(x *linescan.Scanner) { x.End() }, 0},
		{" ", func(x *linescan.Scanner) { x.End() }, 0},
	} {
		s := linescan.New(x.text)
		x.fail(s)
		expectFailed(t, s, x.offset)
		expectNothing(t, s)
	}
}

// Failed scanners at the end of their text: End does not make them good.
func TestFailedScannerAtTheEnd(t *testing.T) {
	x := linescan.New("ab")
	expectWord(t, x, -1, "abc")
	x.End()
	expectFailed(t, x, 2)
	expectNothing(t, x)
}

// P25.1: two scanners do not affect each other, also of the same text.
func TestTwoScanners(t *testing.T) {
	const text = "season lent 2"
	x, y := linescan.New(text), linescan.New(text)
	expectWord(t, x, 0, "season")
	expectGood(t, y, 0)
	expectWord(t, y, -1, "feast")
	expectFailed(t, y, 0)
	expectGood(t, x, 6)
	expectWord(t, x, 0, " ")
	expectIdentifier(t, x, "lent")
	expectFailed(t, y, 0)
	z := linescan.New(text)
	expectGood(t, z, 0)
	expectIdentifier(t, z, "season")
	expectGood(t, x, 11)
	expectGood(t, z, 6)
	expectNumber(t, x, 0)
	expectFailed(t, x, 11)
	expectGood(t, z, 6)
	expectPeek(t, z, ' ')
}
