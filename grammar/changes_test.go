package grammar_test

import (
	"iter"
	"slices"
	"testing"

	"computus/grammar"
)

// expectYields tests all texts that are yielded, and that it is possible to stop
// after each of them.
func expectYields(t *testing.T, texts iter.Seq[string], want ...string) {
	t.Helper()
	if got := slices.Collect(texts); !slices.Equal(got, want) {
		t.Errorf("the texts are %q, want %q", got, want)
	}
	for n := range want {
		var got []string
		for text := range texts {
			got = append(got, text)
			if len(got) == n+1 {
				break
			}
		}
		if !slices.Equal(got, want[:n+1]) {
			t.Errorf("the first texts are %q, want %q", got, want[:n+1])
		}
	}
}

// Changed and inserted bytes of short texts.
func TestBytes(t *testing.T) {
	expectYields(t, grammar.ChangedBytes("", "xy"))
	expectYields(t, grammar.ChangedBytes("ab", ""), "b", "aab", "a", "abb")
	expectYields(t, grammar.ChangedBytes("ab", "x\xff"), "xb", "\xffb", "b", "aab", "ax", "a\xff", "a", "abb")
	expectYields(t, grammar.InsertedBytes("", "xy"), "x", "y")
	expectYields(t, grammar.InsertedBytes("ab", ""))
	expectYields(t, grammar.InsertedBytes("ab", "x\xff"), "xab", "\xffab", "axb", "a\xffb", "abx", "ab\xff")
}

// Changed lines of short texts.
func TestLines(t *testing.T) {
	expectYields(t, grammar.ChangedLines(""))
	expectYields(t, grammar.ChangedLines("a\n"), "", "a\na\n", "\na\n", " \na\n", "a\na\n", "a\n\n", "a\n \n", "a\n")
	expectYields(t, grammar.ChangedLines("a\nb\n"),
		"b\n", "a\na\nb\n", "\na\nb\n", " \na\nb\n", "a\na\nb\n", "a\n\nb\n", "a\n \nb\n", "a\nb\na\n", "a\nb\n\n", "a\nb\n \n", "a\nb\n", "b\na\n",
		"a\n", "b\na\nb\n", "\na\nb\n", " \na\nb\n", "a\nb\nb\n", "a\n\nb\n", "a\n \nb\n", "a\nb\nb\n", "a\nb\n\n", "a\nb\n \n", "b\na\n", "a\nb\n")
}

// All bytes, each of them once, in order.
func TestAllBytes(t *testing.T) {
	all := grammar.AllBytes()
	if len(all) != 256 {
		t.Fatalf("there are %d bytes", len(all))
	}
	for b := range 256 {
		if all[b] != byte(b) {
			t.Errorf("the byte %d is %d", b, all[b])
		}
	}
}
