package grammar_test

import (
	"strings"
	"testing"

	"computus/grammar"
)

// textsOf returns all texts of up to most of the letters.
func textsOf(letters string, most int) []string {
	all := []string{""}
	for first := 0; most > 0; most-- {
		last := len(all)
		for _, text := range all[first:last] {
			for i := range len(letters) {
				all = append(all, text+letters[i:i+1])
			}
		}
		first = last
	}
	return all
}

// expectMatch tests the match of a text with a form that has a few texts only.
func expectMatch(t *testing.T, form grammar.Form, text string, formed []string) {
	t.Helper()
	wantOK, wantOffset := false, 0
	for _, f := range formed {
		wantOK = wantOK || f == text
		for n := range min(len(f), len(text)) + 1 {
			if f[:n] == text[:n] {
				wantOffset = max(wantOffset, n)
			}
		}
	}
	if wantOK {
		wantOffset = 0
	}
	if ok, offset := grammar.Match(form, text); ok != wantOK || offset != wantOffset {
		t.Errorf("%q matches the form of %q: %v, %d; want %v, %d", text, formed, ok, offset, wantOK, wantOffset)
	}
}

// Forms of a few texts, against lists of these, for all short texts.
func TestMatchOfFiniteForms(t *testing.T) {
	a, b, ab, aba := grammar.Word("a"), grammar.Word("b"), grammar.Word("ab"), grammar.Word("aba")
	for _, c := range []struct {
		form   grammar.Form
		formed []string
	}{
		{a, []string{"a"}},
		{aba, []string{"aba"}},
		{grammar.Sequence(), []string{""}},
		{grammar.Sequence(ab, aba), []string{"ababa"}},
		{grammar.Choice(ab, aba), []string{"ab", "aba"}},
		{grammar.Choice(aba, b), []string{"aba", "b"}},
		{grammar.Words("aba", "b"), []string{"aba", "b"}},
		{grammar.Sequence(grammar.Choice(ab, aba), grammar.Choice(a, ab)), []string{"aba", "abab", "abaa", "abaab"}},
		{grammar.Repeat(ab), []string{"", "ab", "abab", "ababab", "abababab"}},
		{grammar.Sequence(grammar.Repeat(ab), a), []string{"a", "aba", "ababa", "abababa"}},
		{grammar.Repeat(grammar.Choice(a, b)), textsOf("ab", 7)},
		{grammar.Choice(grammar.Sequence(a, grammar.Word("c")), grammar.Sequence(ab, b)), []string{"ac", "abb"}},
	} {
		for _, text := range textsOf("abc", 6) {
			expectMatch(t, c.form, text, c.formed)
		}
	}
}

// Numbers and identifiers, with the offsets at which other texts are rejected.
func TestMatchOfNumbersAndIdentifiers(t *testing.T) {
	forms := map[string]grammar.Form{"number": grammar.Number(), "identifier": grammar.Identifier()}
	letters := strings.Repeat("x", 37)
	for _, c := range []struct {
		form, text string
		offset     int // -1 if the text is accepted
	}{
		{"number", "0", -1}, {"number", "7", -1}, {"number", "-7", -1}, {"number", "10", -1}, {"number", "9999999999", -1}, {"number", "-9999999999", -1},
		{"number", "", 0}, {"number", "-", 1}, {"number", "-0", 1}, {"number", "--1", 1}, {"number", "00", 1}, {"number", "+1", 0}, {"number", "1x", 1}, {"number", " 1", 0}, {"number", "1_0", 1},
		{"number", "12345678901", 10}, {"number", "-12345678901", 11}, {"number", strings.Repeat("9", 40), 10},
		{"identifier", "a", -1}, {"identifier", "st-john-2", -1}, {"identifier", "a0-0", -1}, {"identifier", letters + "-ab", -1},
		{"identifier", "", 0}, {"identifier", "2", 0}, {"identifier", "-", 0}, {"identifier", "A", 0}, {"identifier", "a-", 2}, {"identifier", "a--b", 2}, {"identifier", "a b", 1}, {"identifier", "a-b-", 4},
		{"identifier", letters + "-abc", 40}, {"identifier", letters + "abcd", 40}, {"identifier", letters + "ab-", 39}, {"identifier", letters + "ab-c", 39}, {"identifier", letters + "a-", 39}, {"identifier", letters + "a-b", -1},
	} {
		ok, offset := grammar.Match(forms[c.form], c.text)
		if want := c.offset < 0; ok != want || offset != max(c.offset, 0) {
			t.Errorf("%q is a text of the form %s: %v, %d; want %v, %d", c.text, c.form, ok, offset, want, max(c.offset, 0))
		}
	}
}
