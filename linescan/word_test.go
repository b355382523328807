package linescan_test

import (
	"slices"
	"strings"
	"testing"

	"computus/linescan"
)

// expectAccepted tests that a scanner of a text accepts the word with an index and
// stops behind it.
func expectAccepted(t *testing.T, text string, index int, words ...string) {
	t.Helper()
	x := linescan.New(text)
	expectWord(t, x, index, words...)
	expectGood(t, x, len(words[index]))
}

// expectRefused tests that a scanner of a text accepts none of the words and fails at
// an offset.
func expectRefused(t *testing.T, text string, offset int, words ...string) {
	t.Helper()
	x := linescan.New(text)
	expectWord(t, x, -1, words...)
	expectFailed(t, x, offset)
}

// expectWordByDefinition tests what a scanner of a text does with some words: it
// accepts the bytes that are a prefix of one of them, which may be a whole one.
func expectWordByDefinition(t *testing.T, text string, words ...string) {
	t.Helper()
	n := 0
	for n < len(text) && slices.ContainsFunc(words, func(w string) bool { return strings.HasPrefix(w, text[:n+1]) }) {
		n++
	}
	if i := slices.Index(words, text[:n]); i >= 0 {
		expectAccepted(t, text, i, words...)
	} else {
		expectRefused(t, text, n, words...)
	}
}

// P25.2: one word.
func TestWordOfOne(t *testing.T) {
	for _, w := range []string{"a", "\n", " ", "free ", "transfer", "\x00", "\xff\xfe", "中文", strings.Repeat("x", 300)} {
		expectAccepted(t, w, 0, w)
		expectAccepted(t, w+"a", 0, w)
		expectAccepted(t, w+w, 0, w)
		expectAccepted(t, w+"\xff\n", 0, w)
		expectRefused(t, "", 0, w)
		expectRefused(t, "Q"+w, 0, w)
		expectRefused(t, w[:len(w)-1], len(w)-1, w)
		expectRefused(t, w[:len(w)-1]+"Q", len(w)-1, w)
	}
}

// P25.2: the first, a middle and the last one of several words, at the end of the
// text and before other bytes.
func TestWordOfSeveral(t *testing.T) {
	words := []string{"transfer", "commemorate", "omit", "fixed", "easter", "nth", "season", "feast", "end"}
	for i, w := range words {
		expectAccepted(t, w, i, words...)
		expectAccepted(t, w+" 12\n", i, words...)
		expectAccepted(t, w+w, i, words...)
		expectAccepted(t, w+words[0], i, words...)
	}
}

// P25.2: words that share a beginning.
func TestWordOfSharedBeginnings(t *testing.T) {
	words := []string{"sunday", "saturday", "sat-2", "sunny", "s-1", "sunda-y"}
	for i, w := range words {
		expectAccepted(t, w, i, words...)
		expectAccepted(t, w+"y", i, words...)
	}
	for text, offset := range map[string]int{
		"": 0, "s": 1, "su": 2, "sun": 3, "sund": 4, "sunda": 5, "sunn": 4, "sa": 2, "sat": 3, "sat-": 4, "s-": 2, "sunda-": 6,
		"x": 0, "xunday": 0, "sx": 1, "sux": 2, "sunx": 3, "sundx": 4, "sundax": 5, "sunnx": 4, "sax": 2, "satx": 3, "sat-1": 4, "s-2": 2,
		"satu": 4, "satunday": 4, "saturdax": 7, "sunda-x": 6, "Sunday": 0, "sUnday": 1,
	} {
		expectRefused(t, text, offset, words...)
	}
}

// P25.2: a word counts only while the bytes before it are the same, so that bytes
// of different words cannot be mixed.
func TestWordOfMixedBytes(t *testing.T) {
	expectRefused(t, "adf", 1, "abc", "xdf")
	expectRefused(t, "abf", 2, "abc", "xbf", "xyf")
	expectRefused(t, "aaab", 3, "aaaa", "abab", "bbbb", "baab")
	expectRefused(t, "fest", 2, "feast", "fixed", "best", "west")
	expectAccepted(t, "feast", 3, "best", "fixed", "least", "feast")
	expectRefused(t, "feasy", 4, "feast", "easy", "xxxxy")
	expectRefused(t, "ab", 1, "aa", "bb")
	expectRefused(t, "abc", 1, "aac", "bbc", "b")
	expectRefused(t, "ac", 1, "ab", "xc", "x2c")
}

// P25.2: words of many lengths, of which shorter ones end before others do.
func TestWordOfManyLengths(t *testing.T) {
	var words []string
	for n := range 60 {
		words = append(words, strings.Repeat("a", n)+"b")
	}
	for i, w := range words {
		expectAccepted(t, w, i, words...)
		expectAccepted(t, w+"b", i, words...)
		expectRefused(t, w[:i], i, words...)
		expectRefused(t, w[:i]+"c", i, words...)
	}
	expectRefused(t, strings.Repeat("a", 60)+"b", 59, words...)
	slices.Reverse(words)
	for i, w := range words {
		expectAccepted(t, w+"a", i, words...)
	}
}

// P25.2: a text that ends within a word, or that differs from all words at any byte.
func TestWordThatEndsOrDiffers(t *testing.T) {
	words := []string{"commemorate", "omit", "transfer"}
	for _, w := range words {
		for n := range len(w) {
			expectRefused(t, w[:n], n, words...)
			for _, c := range []string{"X", " ", "\n", "\x00", "\xff", strings.ToUpper(w[n : n+1]), string([]byte{w[n] + 128}), string([]byte{w[n] + 1})} {
				expectRefused(t, w[:n]+c+w[n+1:], n, words...)
			}
		}
	}
}

// P25.2: words that are accepted one after another, until one is not.
func TestWordsInTurn(t *testing.T) {
	x := linescan.New("free feast end\nend")
	expectWord(t, x, 1, "feast", "free")
	expectWord(t, x, 0, " ")
	expectWord(t, x, 0, "feast", "free")
	expectWord(t, x, 1, "\n", " ")
	expectGood(t, x, 11)
	expectWord(t, x, 0, "end\n")
	expectGood(t, x, 15)
	expectWord(t, x, 2, "a", "b", "end", "x")
	expectGood(t, x, 18)
	x.End()
	expectGood(t, x, 18)
	expectWord(t, x, -1, "end")
	expectFailed(t, x, 18)
}

// P25.2: a scanner fails at the offset in its text, not in the word.
func TestWordFailsBehindOthers(t *testing.T) {
	x := linescan.New("season seasoned")
	expectWord(t, x, 0, "season ")
	expectWord(t, x, -1, "seasons", "season ")
	expectFailed(t, x, 13)
	x = linescan.New("season")
	expectWord(t, x, 0, "sea")
	expectWord(t, x, -1, "sons", "sea")
	expectFailed(t, x, 6)
}

// P25.2: all bytes, also as parts of characters, and where only one bit differs.
func TestWordOfEveryByte(t *testing.T) {
	var words []string
	for b := range 256 {
		words = append(words, string([]byte{byte(b)}))
	}
	for i, w := range words {
		expectAccepted(t, w, i, words...)
		expectAccepted(t, "a"+w, 0, "a"+w)
		for bit := range 8 {
			other := string([]byte{byte(i ^ 1<<bit)})
			expectRefused(t, other, 0, w)
			expectRefused(t, "a"+other, 1, "a"+w)
			expectAccepted(t, other, 1, w, other)
		}
	}
}

// P25.2: words with bytes of 128 and more are compared byte by byte.
func TestWordOfManyByteCharacters(t *testing.T) {
	expectAccepted(t, "éè", 1, "è", "é")
	expectAccepted(t, "日曜", 0, "日曜", "月曜")
	expectRefused(t, "ê", 1, "è", "é")
	expectRefused(t, "\xc3", 1, "è", "é")
	expectRefused(t, "日曙", 5, "日曜", "月曜")
	expectRefused(t, "\xff\xfd", 1, "\xff\xfe", "\xff\xff")
	expectRefused(t, "\ufffd", 0, "\xff", "\x80")
	expectRefused(t, "\xff", 0, "\ufffd")
}

// P25.2: all texts of up to six bytes of three kinds, for some lists of words.
func TestWordOfShortTexts(t *testing.T) {
	lists := [][]string{
		{"a"}, {"abc"}, {"a", "b"}, {"b", "a", "c"}, {"ab", "ac", "b"}, {"abc", "abb", "aba", "aa"}, {"cab", "cba", "ccc", "b"},
		{"aab", "aaab", "aaaab", "b"}, {"abcabc", "abcabb", "abca" + "a", "acb"}, {"cc", "ca", "cba", "cbb", "bb"},
	}
	for _, text := range textsOf("abc", 6) {
		for _, words := range lists {
			expectWordByDefinition(t, text, words...)
		}
	}
}

// textsOf lists all texts of up to some bytes of an alphabet.
func textsOf(alphabet string, most int) []string {
	l := []string{""}
	shorter := l
	for range most {
		var next []string
		for _, s := range shorter {
			for i := range len(alphabet) {
				next = append(next, s+alphabet[i:i+1])
			}
		}
		l = append(l, next...)
		shorter = next
	}
	return l
}

// P25.2: the words are the same after each call, in their length, before it and in
// their unused capacity.
func TestWordsAreNotModified(t *testing.T) {
	whole := []string{"before", "feast", "fixed", "free", "behind", "", "f"}
	words := whole[1:4]
	before := slices.Clone(whole)
	for _, text := range []string{"", "feast", "fixed", "free", "fex", "f", "x", "before", "fixedfree", "freefeast"} {
		x := linescan.New(text)
		for range 3 {
			x.Word(words...)
			if !slices.Equal(whole, before) {
				t.Fatalf("the words have been modified: %q", whole)
			}
		}
	}
}

// P25.2: a scanner does not keep the words, so that the caller may change them.
func TestWordsAreNotKept(t *testing.T) {
	words := []string{"feast", "fixed"}
	x := linescan.New("feastseason")
	expectWord(t, x, 0, words...)
	words[0], words[1] = "season", "end"
	expectWord(t, x, 0, words...)
	expectGood(t, x, 11)
}
