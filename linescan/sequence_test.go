package linescan_test

import (
	"math/rand/v2"
	"testing"

	"computus/api"
	"computus/linescan"
)

// call calls one of the methods, with some words, and reports whether its result is
// its zero value.
func call(x *linescan.Scanner, method int) bool {
	switch method {
	case 0:
		return x.Word("a", "b", "-1", "-a") < 0
	case 1:
		return x.Word(" ", "\n", "end") < 0
	case 2:
		return x.Number() == 0
	case 3:
		return x.Identifier() == ""
	case 4:
		return x.Peek() == 0
	case 5:
		return x.Word("\xff\xfe", "\xff\xff", "\x00") < 0
	}
	x.End()
	return true
}

const methods = 7

// expectCalls tests that some calls of methods on a scanner move its offset forwards
// only and within its text, and that it remains as it is when it has failed.
func expectCalls(t *testing.T, text string, calls []int) {
	t.Helper()
	x := linescan.New(text)
	offset, errno := 0, api.OK
	for _, method := range calls {
		zero := call(x, method)
		now := x.Offset()
		if now < offset || now > len(text) {
			t.Fatalf("%q: method %d moves the offset from %d to %d", text, method, offset, now)
		}
		if errno != api.OK && (x.Err() != errno || now != offset || !zero) {
			t.Fatalf("%q: method %d does something at the offset %d although the scanner has failed", text, method, offset)
		}
		if errno == api.OK && x.Err() == api.OK && method != 4 && method != 6 && now == offset {
			t.Fatalf("%q: method %d neither fails nor accepts a byte at the offset %d", text, method, offset)
		}
		offset, errno = now, x.Err()
	}
}

// P25.5: all sequences of four calls, for short texts of a few bytes.
func TestOffsetOfShortSequences(t *testing.T) {
	texts := textsOf("a1- ", 3)
	for code := range methods * methods * methods * methods {
		calls := []int{code % methods, code / methods % methods, code / (methods * methods) % methods, code / (methods * methods * methods)}
		for _, text := range texts {
			expectCalls(t, text, calls)
		}
	}
}

// P25.5: long sequences of calls, for texts of the bytes that the methods accept and
// for texts of all bytes.
func TestOffsetOfLongSequences(t *testing.T) {
	numbers := rand.New(rand.NewPCG(25, 5))
	const likely = "ab-10 \nend9\xff\xfe\x00"
	for range 20000 {
		text := make([]byte, numbers.IntN(60))
		for i := range text {
			text[i] = likely[numbers.IntN(len(likely))]
			if numbers.IntN(10) == 0 {
				text[i] = byte(numbers.IntN(256))
			}
		}
		calls := make([]int, 30)
		for i := range calls {
			calls[i] = numbers.IntN(methods)
		}
		expectCalls(t, string(text), calls)
	}
}

// P25.5: the offset reaches the length of the text, also of a long one.
func TestOffsetReachesTheLength(t *testing.T) {
	var text []byte
	for range 10000 {
		text = append(text, "feast joseph -1234567890\n"...)
	}
	x := linescan.New(string(text))
	for range 10000 {
		x.Word("season ", "feast ")
		x.Identifier()
		x.Word(" ")
		x.Number()
		x.Word("\n")
	}
	x.End()
	expectGood(t, x, len(text))
}

// P25.2: no panic leaves Word even for words for which nothing is promised, and it
// terminates.
func TestWordOfOtherWords(t *testing.T) {
	for _, words := range [][]string{nil, {""}, {"", "a"}, {"a", ""}, {"a", "a"}, {"a", "ab"}, {"ab", "a"}, {"ab", "abc", "a", ""}} {
		for _, text := range []string{"", "a", "ab", "abc", "b"} {
			x := linescan.New(text)
			i := x.Word(words...)
			if i < -1 || i >= len(words) {
				t.Errorf("Word(%q) = %d", words, i)
			}
			if n := x.Offset(); n < 0 || n > len(text) {
				t.Errorf("Offset() = %d", n)
			}
			if (i < 0) != (x.Err() == api.ErrSyntax) {
				t.Errorf("Word(%q) = %d, Err() = %d", words, i, x.Err())
			}
		}
	}
}
