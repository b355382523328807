package linescan_test

import (
	"testing"

	"computus/linescan"
)

// P25.4: the next byte, as often as it is asked for, without accepting it.
func TestPeek(t *testing.T) {
	x := linescan.New("ab 7")
	for range 3 {
		expectPeek(t, x, 'a')
		expectGood(t, x, 0)
	}
	expectWord(t, x, 0, "a")
	expectPeek(t, x, 'b')
	expectGood(t, x, 1)
	expectIdentifier(t, x, "b")
	expectPeek(t, x, ' ')
	expectWord(t, x, 0, " ")
	expectPeek(t, x, '7')
	expectNumber(t, x, 7)
	expectGood(t, x, 4)
}

// atTheEnd lists scanners that have accepted all bytes of their texts.
func atTheEnd(t *testing.T) []*linescan.Scanner {
	t.Helper()
	l := []*linescan.Scanner{linescan.New("")}
	for _, text := range []string{"a", "abc", "end\n", "\x00", "\xff"} {
		x := linescan.New(text)
		expectWord(t, x, 0, text)
		expectGood(t, x, len(text))
		l = append(l, x)
	}
	return l
}

// P25.4: 0 at the end of the text, where the scanner stays good.
func TestPeekAtTheEnd(t *testing.T) {
	for _, x := range atTheEnd(t) {
		length := x.Offset()
		for range 3 {
			expectPeek(t, x, 0)
			expectGood(t, x, length)
		}
	}
}

// P25.4: every byte, also 0, which is a byte that is left.
func TestPeekOfEveryByte(t *testing.T) {
	for b := range 256 {
		c := string([]byte{byte(b)})
		for _, text := range []string{c, c + "a", c + c} {
			x := linescan.New(text)
			expectPeek(t, x, byte(b))
			expectGood(t, x, 0)
			expectWord(t, x, 0, c)
			expectGood(t, x, 1)
		}
	}
	x := linescan.New("\x00")
	expectPeek(t, x, 0)
	x.End()
	expectFailed(t, x, 0)
}

// P25.4: 0 on a scanner that has failed, although a byte is left.
func TestPeekOfFailedScanner(t *testing.T) {
	x := linescan.New("abc")
	expectWord(t, x, -1, "ax")
	for range 3 {
		expectPeek(t, x, 0)
		expectFailed(t, x, 1)
	}
}

// P25.4: End fails at the first byte that is left, whatever it is.
func TestEndWithAByte(t *testing.T) {
	for b := range 256 {
		for _, rest := range []string{"", "a", "\n"} {
			x := linescan.New("end" + string([]byte{byte(b)}) + rest)
			expectWord(t, x, 0, "end")
			x.End()
			expectFailed(t, x, 3)
			x.End()
			expectFailed(t, x, 3)
		}
	}
}

// P25.4: End does nothing if no byte is left.
func TestEndWithoutBytes(t *testing.T) {
	for _, x := range atTheEnd(t) {
		length := x.Offset()
		for range 3 {
			x.End()
			expectGood(t, x, length)
		}
		expectWord(t, x, -1, "a")
		expectFailed(t, x, length)
	}
}

// P25.4: a scanner that has failed at the end of its text remains failed.
func TestEndOfFailedScanner(t *testing.T) {
	x := linescan.New("-")
	expectNumber(t, x, 0)
	expectFailed(t, x, 1)
	x.End()
	expectFailed(t, x, 1)
}
