package cattext_test

import (
	"math/rand"
	"reflect"
	"slices"
	"strings"
	"testing"

	"computus/api"
	"computus/builtin"
	"computus/cattext"
	"computus/grammar"
)

// expectRejected tests that a text is rejected at an offset.
func expectRejected(t *testing.T, text string, want int) {
	t.Helper()
	c, offset, errno := cattext.Parse(text)
	if !reflect.DeepEqual(c, api.Catalogue{}) || offset != want || errno != api.ErrSyntax {
		t.Errorf("Parse(%q) is %v, %d, %d; want a zero catalogue, %d, 6", text, c, offset, errno, want)
	}
}

// textForm returns the form of the texts of printable catalogues.
func textForm() grammar.Form {
	word, number, identifier := grammar.Word, grammar.Number(), grammar.Identifier()
	space := word(" ")
	anchor := grammar.Choice(
		grammar.Sequence(word("fixed "), number, space, number),
		grammar.Sequence(word("easter "), number),
		grammar.Sequence(word("nth "), grammar.Words(dayNames...), space, number, space, number, space, number),
	)
	policy := grammar.Words("transfer", "commemorate", "omit")
	return grammar.Sequence(
		word("catalogue\nfree "), number, word("\n"),
		grammar.Repeat(grammar.Sequence(word("season "), identifier, space, number, space, number, space, anchor, word("\n"))),
		grammar.Repeat(grammar.Sequence(word("feast "), identifier, space, number, space, policy, space, anchor, word("\n"))),
		word("end\n"),
	)
}

// expectByDefinition tests the result of Parse for any text.
func expectByDefinition(t *testing.T, form grammar.Form, text string) {
	t.Helper()
	ok, want := grammar.Match(form, text)
	if !ok {
		expectRejected(t, text, want)
		return
	}
	c, offset, errno := cattext.Parse(text)
	if textByDefinition(c) != text || offset != 0 || errno != api.OK {
		t.Errorf("Parse(%q) is %v, %d, %d", text, c, offset, errno)
	}
	if cattext.Print(c) != text {
		t.Errorf("Print of Parse of %q is %q", text, cattext.Print(c))
	}
}

// P26.2: a text that ends too early is rejected at its length: every prefix of
// several texts.
func TestParseOfPrefixes(t *testing.T) {
	random := rand.New(rand.NewSource(1))
	texts := []string{"catalogue\nfree 0\nend\n", smallText, textByDefinition(builtin.Catalogue())}
	for range 30 {
		texts = append(texts, textByDefinition(randomCatalogue(random)))
	}
	for _, text := range texts {
		for n := range len(text) {
			expectRejected(t, text[:n], n)
		}
	}
}

// P26.2: one line is replaced by another one, which is rejected at an offset in it.
func TestParseOfOtherLines(t *testing.T) {
	const head = "catalogue\nfree 0\n"
	for _, c := range []struct {
		line   string
		offset int
	}{
		// Numbers.
		{"season a 01 2 easter 3", 10}, {"season a 00 2 easter 3", 10}, {"season a +1 2 easter 3", 9}, {"season a -0 2 easter 3", 10}, {"season a - 2 easter 3", 10}, {"season a --1 2 easter 3", 10},
		{"season a 12345678901 2 easter 3", 19}, {"season a -12345678901 2 easter 3", 20}, {"season a 1.0 2 easter 3", 10}, {"season a x 2 easter 3", 9}, {"season a 1x 2 easter 3", 10},
		{"season a 1 02 easter 3", 12}, {"season a 1 2 easter 03", 21}, {"season a 1 2 easter +3", 20}, {"season a 1 2 easter 10000000000", 30}, {"season a 1 2 easter -03", 21},
		{"feast a 01 omit easter 3", 9}, {"feast a 1 omit fixed 1 02", 24}, {"feast a 1 omit fixed 01 2", 22}, {"feast a 1 omit nth friday 1 2 -03", 31},
		// Words.
		{"Season a 1 2 easter 3", 0}, {"seAson a 1 2 easter 3", 2}, {"seasons a 1 2 easter 3", 6}, {"seaso", 5}, {"season", 6}, {"Feast a 1 omit easter 3", 0}, {"feas a 1 omit easter 3", 4}, {"fixed a 1 omit easter 3", 1}, {"free 0", 1}, {"feasts a", 5},
		{"catalogue", 0}, {"e", 1}, {"en", 2}, {"End", 0}, {"END", 0}, {"ends", 3}, {"end ", 3}, {"easter 3", 1}, {"nth", 0}, {"x", 0},
		{"feast a 1 Omit easter 3", 10}, {"feast a 1 omi easter 3", 13}, {"feast a 1 omitt easter 3", 14}, {"feast a 1 transferred easter 3", 18}, {"feast a 1 tranfser easter 3", 14}, {"feast a 1 commemorated easter 3", 21}, {"feast a 1 com easter 3", 13}, {"feast a 1 1 easter 3", 10}, {"feast a 1 easter 3", 10}, {"feast a 1 transferomit easter 3", 18},
		{"season a 1 2 Fixed 3 4", 13}, {"season a 1 2 fixedd 3 4", 18}, {"season a 1 2 fix 3 4", 16}, {"season a 1 2 feast 3 4", 14}, {"season a 1 2 free 3 4", 14}, {"season a 1 2 end 3", 14}, {"season a 1 2 east 3", 17}, {"season a 1 2 Easter 3", 13}, {"season a 1 2 nht sunday 1 2 3", 14}, {"season a 1 2 paschal 3", 13}, {"season a 1 2 omit 3", 13},
		// Days of the week.
		{"season a 1 2 nth Sunday 1 2 3", 17}, {"season a 1 2 nth sun 1 2 3", 20}, {"season a 1 2 nth sunda 1 2 3", 22}, {"season a 1 2 nth sundays 1 2 3", 23}, {"season a 1 2 nth funday 1 2 3", 18}, {"season a 1 2 nth 0 1 2 3", 17}, {"season a 1 2 nth tursday 1 2 3", 19}, {"season a 1 2 nth thuesday 1 2 3", 20}, {"season a 1 2 nth tuesnesday 1 2 3", 21}, {"season a 1 2 nth  1 2 3", 17}, {"season a 1 2 nth satday 1 2 3", 20},
		// Identifiers.
		{"season a- 1 2 easter 3", 9}, {"season a--b 1 2 easter 3", 9}, {"season 2nd 1 2 easter 3", 7}, {"season -a 1 2 easter 3", 7}, {"season A 1 2 easter 3", 7}, {"season aB 1 2 easter 3", 8}, {"season a_b 1 2 easter 3", 8}, {"season é 1 2 easter 3", 7}, {"season aé 1 2 easter 3", 8}, {"season \xff 1 2 easter 3", 7},
		{"season " + strings.Repeat("x", 41) + " 1 2 easter 3", 47}, {"season " + strings.Repeat("x", 39) + "-a 1 2 easter 3", 46}, {"season " + strings.Repeat("x", 38) + "-ab 1 2 easter 3", 47}, {"season " + strings.Repeat("x", 38) + "- 1 2 easter 3", 46}, {"season " + strings.Repeat("x", 40) + "- 1 2 easter 3", 47},
		{"feast a- 1 omit easter 3", 8}, {"feast 2nd 1 omit easter 3", 6}, {"feast " + strings.Repeat("x", 41) + " 1 omit easter 3", 46}, {"feast " + strings.Repeat("x", 39) + "-a 1 omit easter 3", 45},
		// Spaces, tabs, carriage returns and empty lines.
		{"season  a 1 2 easter 3", 7}, {"season a  1 2 easter 3", 9}, {"season a 1  2 easter 3", 11}, {"season a 1 2  easter 3", 13}, {"season a 1 2 easter  3", 20}, {"season a 1 2 easter 3 ", 21}, {" season a 1 2 easter 3", 0}, {"season\ta 1 2 easter 3", 6}, {"season a\t1 2 easter 3", 8}, {"season a 1 2 easter 3\t", 21}, {"season a 1 2 easter 3\r", 21}, {"season a 1 2 easter 3\x00", 21}, {"season\u00a0a 1 2 easter 3", 6},
		{"feast  a 1 omit easter 3", 6}, {"feast a 1 omit  easter 3", 15}, {"feast a 1 omit fixed  3 4", 21}, {"feast a 1 omit fixed 3  4", 23}, {"feast a 1 omit fixed 3 4 ", 24}, {"feast a 1 omit nth friday 1 2  3", 30}, {"feast a 1 omit easter 3\r", 23}, {"", 0}, {"\t", 0}, {" ", 0}, {"\r", 0},
		// Parts that are missing or too many.
		{"season 1 2 easter 3", 7}, {"season a 1 easter 3", 11}, {"season a easter 3", 9}, {"season a 1 2", 12}, {"season a 1 2 ", 13}, {"season a 1 2 3 easter 3", 13}, {"season a 1 2 easter", 19}, {"season a 1 2 easter ", 20}, {"season a 1 2 easter 3 4", 21}, {"season a 1 2 fixed 3", 20}, {"season a 1 2 fixed 3 4 5", 22}, {"season a 1 2 nth friday 1 2", 27}, {"season a 1 2 nth friday 1 2 3 4", 29}, {"season a 1 2 nth 1 2 3", 17}, {"season a 1 omit easter 3", 11}, {"feast a omit easter 3", 8}, {"feast a 1 2 omit easter 3", 10}, {"feast a 1 omit", 14},
	} {
		expectRejected(t, head+c.line+"\nend\n", len(head)+c.offset)
		before := head + "season s 1 2 easter 3\n"
		expectRejected(t, before+c.line+"\nend\n", len(before)+c.offset)
	}
}

// P26.2: the lines in front of the seasons.
func TestParseOfOtherHeads(t *testing.T) {
	for _, c := range []struct {
		text   string
		offset int
	}{
		{"", 0}, {"\n", 0}, {" catalogue\nfree 0\nend\n", 0}, {"Catalogue\nfree 0\nend\n", 0}, {"catalog\nfree 0\nend\n", 7}, {"catalogues\nfree 0\nend\n", 9}, {"catalogue \nfree 0\nend\n", 9}, {"catalogue\r\nfree 0\nend\n", 9}, {"catalogue\n\nfree 0\nend\n", 10}, {"catalogue free 0\nend\n", 9}, {"calendar 0\nend\n", 2}, {"\ufeffcatalogue\nfree 0\nend\n", 0},
		{"catalogue\nend\n", 10}, {"catalogue\nfeast 0\nend\n", 11}, {"catalogue\nfixed 0\nend\n", 11}, {"catalogue\nFree 0\nend\n", 10}, {"catalogue\nfree\n", 14}, {"catalogue\nfree \nend\n", 15}, {"catalogue\nfree  0\nend\n", 15}, {"catalogue\nfree 0 \nend\n", 16}, {"catalogue\nfree 05\nend\n", 16}, {"catalogue\nfree +5\nend\n", 15}, {"catalogue\nfree -0\nend\n", 16}, {"catalogue\nfree -5\r\nend\n", 17}, {"catalogue\nfree 10000000000\nend\n", 25}, {"catalogue\nfree 0 0\nend\n", 16}, {"catalogue\nfree x\nend\n", 15}, {"catalogue\nfree 0\nfree 0\nend\n", 18}, {"catalogue\nfree\t0\nend\n", 14},
		{"free 0\nend\n", 0}, {"end\n", 0}, {"free 0\ncatalogue\nend\n", 0}, {"catalogue\ncatalogue\nfree 0\nend\n", 10},
	} {
		expectRejected(t, c.text, c.offset)
	}
}

// P26.2: bytes behind the last line feed, and texts without it.
func TestParseOfOtherEnds(t *testing.T) {
	for _, text := range []string{"catalogue\nfree 0\nend\n", smallText} {
		for b := range 256 {
			expectRejected(t, text+string([]byte{byte(b)}), len(text))
		}
		for _, end := range []string{"\n\n", " end\n", "end\n", text, "feast a 1 omit easter 3\nend\n"} {
			expectRejected(t, text+end, len(text))
		}
		cut := strings.TrimSuffix(text, "\n")
		expectRejected(t, cut, len(cut))
		for _, end := range []string{" ", " \n", "\r\n", "\t\n", "\x00", "d\n", "\r"} {
			expectRejected(t, cut+end, len(cut))
		}
	}
}

// P26.2: lines that are missing, doubled, empty or in another place. The definition
// tells which of these texts are accepted.
func TestParseOfOtherOrders(t *testing.T) {
	form := textForm()
	for text := range grammar.ChangedLines(smallText) {
		expectByDefinition(t, form, text)
	}
	lines := slices.Collect(strings.Lines(smallText))
	// A season behind a feast.
	expectRejected(t, "catalogue\nfree 0\nfeast a 1 omit easter 3\nseason s 1 2 easter 3\nend\n", 41)
	// No end, no head, and one line of each only.
	expectRejected(t, strings.Join(lines[:8], ""), len(smallText)-4)
	expectRejected(t, strings.Join(lines[1:], ""), 0)
	for _, line := range lines[1:] {
		expectRejected(t, line, 0)
	}
}

// P26.2: one byte of a text is replaced by another one, removed or doubled.
func TestParseOfChangedBytes(t *testing.T) {
	form := textForm()
	for text := range grammar.ChangedBytes(smallText, "\x00\t\n\r +-.0159AFZaefnostxz~\x7f\x80\xc3\xff") {
		expectByDefinition(t, form, text)
	}
	long := textByDefinition(builtin.Catalogue())
	for text := range grammar.ChangedBytes(long, " \n-0Ae") {
		expectByDefinition(t, form, text)
	}
}

// P26.2: every byte from 0 to 255, in the place of each byte of a short text and in
// front of it.
func TestParseOfEveryByte(t *testing.T) {
	form := textForm()
	text := "catalogue\nfree 1\nseason s-2 -1 0 fixed 1 2\nfeast f 1 omit nth friday 1 2 3\nend\n"
	for changed := range grammar.ChangedBytes(text, grammar.AllBytes()) {
		expectByDefinition(t, form, changed)
	}
	for changed := range grammar.InsertedBytes(text, grammar.AllBytes()) {
		expectByDefinition(t, form, changed)
	}
}

// P26.2: texts that are put together at random from pieces of texts, most of which
// begin as a text does.
func TestParseOfRandomPieces(t *testing.T) {
	form := textForm()
	random := rand.New(rand.NewSource(2))
	pieces := []string{
		"catalogue", "free", "season", "feast", "end", "fixed", "easter", "nth", "transfer", "commemorate", "omit", "sunday", "saturday", "a", "b-2", "x-", "0", "1", "-5", "-0", "007", "12345678901", " ", "\n", "\n", " ", " ", "  ", "\r\n", "\xff",
		"season a 1 2 ", "feast b 3 omit ", "feast c 4 transfer ", "fixed 1 2\n", "easter 3\n", "nth monday 1 2 3\n", "end\n",
	}
	accepted := 0
	for range 20000 {
		text := "catalogue\nfree 0\n"
		for range random.Intn(6) {
			text += pick(random, pieces)
		}
		if random.Intn(2) == 0 {
			text += "end\n"
		}
		expectByDefinition(t, form, text)
		if _, _, errno := cattext.Parse(text); errno == api.OK {
			accepted++
		}
	}
	if accepted < 100 {
		t.Errorf("only %d texts are accepted", accepted)
	}
}

// P26.3: Print of Parse of a text is the text, and Parse of Print of a catalogue is
// the catalogue, again and again.
func TestPrintAndParseAreInverse(t *testing.T) {
	random := rand.New(rand.NewSource(3))
	for range 500 {
		want := randomCatalogue(random)
		c, text := want, ""
		for range 3 {
			var offset int
			var errno api.Errno
			text = cattext.Print(c)
			c, offset, errno = cattext.Parse(text)
			if !same(c, want) || offset != 0 || errno != api.OK {
				t.Fatalf("Parse of %q is %v, %d, %d", text, c, offset, errno)
			}
			if cattext.Print(c) != text {
				t.Fatalf("Print of Parse of %q is another text", text)
			}
		}
	}
}

// P26.3: different catalogues have different texts.
func TestTextsAreDistinct(t *testing.T) {
	random := rand.New(rand.NewSource(4))
	known := map[string]api.Catalogue{}
	for range 3000 {
		c := randomCatalogue(random)
		text := cattext.Print(c)
		if other, ok := known[text]; ok && !same(other, c) {
			t.Fatalf("%v and %v have the same text", other, c)
		}
		known[text] = c
	}
}
