package ordotext_test

import (
	"math/rand"
	"reflect"
	"slices"
	"strings"
	"testing"

	"computus/api"
	"computus/grammar"
	"computus/ordotext"
)

// expectRejected tests that a text is rejected at an offset.
func expectRejected(t *testing.T, text string, want int) {
	t.Helper()
	k, offset, errno := ordotext.Parse(text)
	if !reflect.DeepEqual(k, api.Calendar{}) || offset != want || errno != api.ErrSyntax {
		t.Errorf("Parse(%.300q) is %v, %d, %d; want a zero calendar, %d, 6", text, k, offset, errno, want)
	}
}

// expectRejectedAtMark tests that a text is rejected at the offset at which a mark is,
// which is no part of the text.
func expectRejectedAtMark(t *testing.T, marked string) {
	t.Helper()
	before, after, ok := strings.Cut(marked, "^")
	if !ok {
		t.Fatalf("%q has no mark", marked)
	}
	expectRejected(t, before+after, len(before))
}

// textForm returns the form of the texts of printable calendars.
func textForm() grammar.Form {
	word, number, identifier := grammar.Word, grammar.Number(), grammar.Identifier()
	space := word(" ")
	date := grammar.Sequence(number, space, number)
	own := grammar.Sequence(grammar.Words("temporal ", "proper "), identifier, space, number)
	moved := grammar.Sequence(word("moved "), identifier, space, number, word(" from "), date)
	entry := grammar.Sequence(
		word("day "), date, space, grammar.Words(dayNames...), space, identifier, space, number, space, grammar.Choice(own, moved),
		grammar.Repeat(grammar.Sequence(word(" with "), identifier)),
		grammar.Repeat(grammar.Sequence(word(" without "), identifier)),
		word("\n"),
	)
	return grammar.Sequence(word("calendar "), number, word("\n"), grammar.Repeat(entry), word("end\n"))
}

// expectByDefinition tests the result of Parse for any text.
func expectByDefinition(t *testing.T, form grammar.Form, text string) {
	t.Helper()
	ok, want := grammar.Match(form, text)
	if !ok {
		expectRejected(t, text, want)
		return
	}
	k, offset, errno := ordotext.Parse(text)
	if textByDefinition(k) != text || offset != 0 || errno != api.OK {
		t.Errorf("Parse(%q) is %v, %d, %d", text, k, offset, errno)
	}
	if ordotext.Print(k) != text {
		t.Errorf("Print of Parse of %q is %q", text, ordotext.Print(k))
	}
}

// P27.2: a text that ends too early is rejected at its length: every prefix of
// several texts.
func TestParseOfPrefixes(t *testing.T) {
	random := rand.New(rand.NewSource(1))
	k := build(t, 2024)
	k.Entries = k.Entries[60:110]
	texts := []string{"calendar 2000\nend\n", smallText, textByDefinition(k)}
	for range 30 {
		texts = append(texts, textByDefinition(randomCalendar(random)))
	}
	for _, text := range texts {
		for n := range len(text) {
			expectRejected(t, text[:n], n)
		}
	}
}

// expectLinesRejected tests texts in which one line of an entry is replaced by
// another one with a mark.
func expectLinesRejected(t *testing.T, lines []string) {
	t.Helper()
	for _, line := range lines {
		expectRejectedAtMark(t, "calendar 0\n"+line+"\nend\n")
		expectRejectedAtMark(t, "calendar -5\nday 1 2 monday a 3 proper b 4 with c without d\n"+line+"\nend\n")
	}
}

// P27.2: numbers with superfluous characters, with too many digits, and none.
func TestParseOfOtherNumbers(t *testing.T) {
	expectLinesRejected(t, []string{
		"day 0^1 2 sunday s 3 proper p 4", "day 0^0 2 sunday s 3 proper p 4", "day ^+1 2 sunday s 3 proper p 4", "day -^0 2 sunday s 3 proper p 4", "day -^ 2 sunday s 3 proper p 4", "day -^-1 2 sunday s 3 proper p 4", "day 1^.0 2 sunday s 3 proper p 4", "day 1^e3 2 sunday s 3 proper p 4", "day 1^_0 2 sunday s 3 proper p 4", "day ^x 2 sunday s 3 proper p 4", "day 0^x1 2 sunday s 3 proper p 4", "day ^sunday s 3 proper p 4",
		"day 1234567890^1 2 sunday s 3 proper p 4", "day -1234567890^1 2 sunday s 3 proper p 4", "day 1 9999999999^9 sunday s 3 proper p 4", "day 1 0^2 sunday s 3 proper p 4", "day 1 ^+2 sunday s 3 proper p 4", "day 1 -^0 sunday s 3 proper p 4",
		"day 1 2 sunday s 0^3 proper p 4", "day 1 2 sunday s ^+3 proper p 4", "day 1 2 sunday s -^0 proper p 4", "day 1 2 sunday s 1000000000^0 proper p 4", "day 1 2 sunday s -1000000000^0 proper p 4", "day 1 2 sunday s ^x proper p 4",
		"day 1 2 sunday s 3 proper p 0^4", "day 1 2 sunday s 3 proper p ^+4", "day 1 2 sunday s 3 proper p -^0", "day 1 2 sunday s 3 proper p 1000000000^0", "day 1 2 sunday s 3 proper p 0^0", "day 1 2 sunday s 3 proper p ^x",
		"day 1 2 sunday s 3 moved p 4 from 0^5 6", "day 1 2 sunday s 3 moved p 4 from ^+5 6", "day 1 2 sunday s 3 moved p 4 from -^0 6", "day 1 2 sunday s 3 moved p 4 from 1000000000^0 6", "day 1 2 sunday s 3 moved p 4 from ^x 6",
		"day 1 2 sunday s 3 moved p 4 from 5 0^6", "day 1 2 sunday s 3 moved p 4 from 5 ^+6", "day 1 2 sunday s 3 moved p 4 from 5 -^0", "day 1 2 sunday s 3 moved p 4 from 5 1000000000^0", "day 1 2 sunday s 3 moved p 4 from 5 ^x",
	})
}

// P27.2: words with a capital letter, words that are cut off or too long, and words
// that begin as others do.
func TestParseOfOtherWords(t *testing.T) {
	expectLinesRejected(t, []string{
		"^Day 1 2 sunday s 3 proper p 4", "d^Ay 1 2 sunday s 3 proper p 4", "da^ 1 2 sunday s 3 proper p 4", "day^s 1 2 sunday s 3 proper p 4", "da^te 1 2 sunday s 3 proper p 4", "day^1 2 sunday s 3 proper p 4", "da^", "day^", "d^",
		"en^try 1 2 sunday s 3 proper p 4", "^calendar 0", "^1 2 sunday s 3 proper p 4", "e^", "en^", "^End", "e^ND", "end^s", "end^ ", "e^aster 1", "^sunday", "^x", "^free 5",
		"day 1 2 sunday s 3 ^Proper p 4", "day 1 2 sunday s 3 prope^ p 4", "day 1 2 sunday s 3 proper^s p 4", "day 1 2 sunday s 3 pr^intemps p 4", "day 1 2 sunday s 3 ^2 p 4", "day 1 2 sunday s 3 p^ 4",
		"day 1 2 sunday s 3 ^Temporal p 4", "day 1 2 sunday s 3 tempora^ p 4", "day 1 2 sunday s 3 temporal^s p 4", "day 1 2 sunday s 3 tempor^is p 4", "day 1 2 sunday s 3 t^ransfer p 4",
		"day 1 2 sunday s 3 ^Moved p 4 from 5 6", "day 1 2 sunday s 3 move^ p 4 from 5 6", "day 1 2 sunday s 3 moved^d p 4 from 5 6", "day 1 2 sunday s 3 mo^nday p 4 from 5 6", "day 1 2 sunday s 3 moved^temporal p 4 from 5 6",
		"day 1 2 sunday s 3 moved p 4 ^From 5 6", "day 1 2 sunday s 3 moved p 4 fro^ 5 6", "day 1 2 sunday s 3 moved p 4 from^m 5 6", "day 1 2 sunday s 3 moved p 4 fro^n 5 6", "day 1 2 sunday s 3 moved p 4 f^eria 5 6", "day 1 2 sunday s 3 moved p 4 from^5 6",
		"day 1 2 sunday s 3 proper p 4 ^With a", "day 1 2 sunday s 3 proper p 4 wit^ a", "day 1 2 sunday s 3 proper p 4 with^h a", "day 1 2 sunday s 3 proper p 4 with^in a", "day 1 2 sunday s 3 proper p 4 w^ a", "day 1 2 sunday s 3 proper p 4 with^-a", "day 1 2 sunday s 3 proper p 4 with^1", "day 1 2 sunday s 3 proper p 4 ^and a",
		"day 1 2 sunday s 3 proper p 4 ^Without a", "day 1 2 sunday s 3 proper p 4 witho^ a", "day 1 2 sunday s 3 proper p 4 withou^ a", "day 1 2 sunday s 3 proper p 4 without^t a", "day 1 2 sunday s 3 proper p 4 with^Out a", "day 1 2 sunday s 3 proper p 4 witho^ver a", "day 1 2 sunday s 3 proper p 4 without^-a",
		"day 1 2 sunday s 3 proper p 4 ^out a", "day 1 2 sunday s 3 proper p 4 ^5", "day 1 2 sunday s 3 proper p 4^with a", "day 1 2 sunday s 3 proper p 4^without a",
	})
}

// P27.2: names of days of the week that are cut off or do not exist.
func TestParseOfOtherDaysOfTheWeek(t *testing.T) {
	expectLinesRejected(t, []string{
		"day 1 2 ^Sunday s 3 proper p 4", "day 1 2 sun^ s 3 proper p 4", "day 1 2 sunda^ s 3 proper p 4", "day 1 2 sunday^s s 3 proper p 4", "day 1 2 ^dimanche s 3 proper p 4", "day 1 2 ^0 s 3 proper p 4", "day 1 2 sa^bbath s 3 proper p 4", "day 1 2 sat^day s 3 proper p 4", "day 1 2 t^wesday s 3 proper p 4", "day 1 2 thu^esday s 3 proper p 4", "day 1 2 tues^nesday s 3 proper p 4", "day 1 2 m^ s 3 proper p 4",
		"day 1 2 fri^ s 3 proper p 4", "day 1 2 friday^friday s 3 proper p 4", "day 1 2 we^nesday s 3 proper p 4", "day 1 2 mo^on s 3 proper p 4", "day 1 2 sund^Ay s 3 proper p 4",
	})
	for _, name := range dayNames {
		for n := 1; n < len(name); n++ {
			expectLinesRejected(t, []string{"day 1 2 " + name[:n] + "^ s 3 proper p 4", "day 1 2 " + name[:n] + "^x s 3 proper p 4", "day 1 2 " + name[:n] + "^\n s 3 proper p 4"})
		}
		expectLinesRejected(t, []string{"day 1 2 " + name + "^" + name + " s 3 proper p 4", "day 1 2 ^" + strings.ToUpper(name) + " s 3 proper p 4"})
	}
}

// P27.2: texts that are no identifiers, in each place in which one is expected.
func TestParseOfOtherIdentifiers(t *testing.T) {
	x := func(n int) string { return strings.Repeat("x", n) }
	places := [][2]string{
		{"day 1 2 sunday ", " 3 proper p 4"}, {"day 1 2 sunday s 3 temporal ", " 4"}, {"day 1 2 sunday s 3 moved ", " 4 from 5 6"},
		{"day 1 2 sunday s 3 proper p 4 with ", " with b"}, {"day 1 2 sunday s 3 proper p 4 with b with ", ""}, {"day 1 2 sunday s 3 proper p 4 without ", " without b"}, {"day 1 2 sunday s 3 moved p 4 from 5 6 with b without ", ""},
	}
	for _, place := range places {
		for _, id := range []string{
			"^", "a-^", "a-^-b", "a-b-^", "^-", "^-a", "^2nd", "^0", "^A", "a^B", "a-^B", "a^_b", "a^.", "a^,b", "^é", "a^é", "a-^é", "^\xff", "a^\xc3", "^\x00", "a^\x00", "^ a", "a-^ b", "^'a'",
			x(40) + "^x", x(40) + "^-", x(40) + "^-x", x(39) + "^-", x(39) + "^-a", x(38) + "-^", x(38) + "-a^b", x(38) + "-^-", "a-" + x(38) + "^x", strings.Repeat("a-", 19) + "ab^c", strings.Repeat("a-", 19) + "a^-c",
		} {
			expectLinesRejected(t, []string{place[0] + id + place[1]})
		}
	}
}

// P27.2: two spaces, spaces at the end of a line, and other bytes that are not seen.
func TestParseOfOtherSpaces(t *testing.T) {
	const line = "day 1 2 sunday s 3 moved p 4 from 5 6 with a with b without c"
	form := textForm()
	for i := range len(line) {
		if line[i] != ' ' {
			continue
		}
		for _, space := range []string{"", "  ", "\t", " \t", "\n", " \n", "\r", "\r\n", "\u00a0", "\x00", "\v", "_"} {
			expectByDefinition(t, form, "calendar 0\n"+line[:i]+space+line[i+1:]+"\nend\n")
		}
		for _, space := range []string{" ^ ", "^\t", " ^\t", " ^\n", "^\r", "^\u00a0", "^\x00", "^\v"} {
			expectLinesRejected(t, []string{line[:i] + space + line[i+1:]})
		}
	}
	for _, own := range []string{line, "day 1 2 sunday s 3 proper p 4", "day 1 2 sunday s 3 temporal p 4 with a", "day 1 2 sunday s 3 moved p 4 from 5 6"} {
		expectLinesRejected(t, []string{own + " ^", own + " ^ ", own + "^\t", own + "^\r", own + "^\x00", "^ " + own, "^\t" + own, "^\n" + own, own + "\n^", "^\ufeff" + own})
	}
	expectLinesRejected(t, []string{"^", "^ ", "^\t", "^\r", "^\r\n", "^\x00"})
}

// P27.2: parts of a line that are missing, doubled or in another place.
func TestParseOfOtherParts(t *testing.T) {
	expectLinesRejected(t, []string{
		// The parts that each line has.
		"day 1 ^sunday s 3 proper p 4", "day 1 2 ^3 proper p 4", "day 1 2 sunday ^3 proper p 4", "day 1 2 sunday s ^proper p 4", "day 1 2 sunday s 3 p^ 4", "day 1 2 sunday s 3 proper ^4", "day 1 2 sunday s 3 proper p^", "day 1 2 sunday s 3 proper p ^", "day 1 2 sunday s 3^", "day 1 2^", "day ^",
		"day 1 2 ^3 sunday s 3 proper p 4", "day 1 2 sunday s ^t 3 proper p 4", "day 1 2 sunday sunday ^s 3 proper p 4", "day 1 2 sunday s 3 ^4 proper p 4", "day 1 2 sunday s 3 proper p ^q 4", "day 1 2 sunday s 3 proper p 4 ^5", "day ^sunday 1 2 s 3 proper p 4", "day 1 2 sunday proper ^s 3 p 4",
		// A from that is not expected, and one that is.
		"day 1 2 sunday s 3 temporal p 4 ^from 5 6", "day 1 2 sunday s 3 proper p 4 ^from 5 6", "day 1 2 sunday s 3 proper p 4 with a ^from 5 6", "day 1 2 sunday s 3 proper p 4 without a ^from 5 6", "day 1 2 sunday s 3 temporal p 4 ^from 5 6 with a",
		"day 1 2 sunday s 3 moved p 4^", "day 1 2 sunday s 3 moved p 4 ^", "day 1 2 sunday s 3 moved p 4 ^with a", "day 1 2 sunday s 3 moved p 4 ^without a", "day 1 2 sunday s 3 moved p 4 ^with a from 5 6", "day 1 2 sunday s 3 moved p 4 ^5 6",
		"day 1 2 sunday s 3 moved p 4 from^", "day 1 2 sunday s 3 moved p 4 from ^", "day 1 2 sunday s 3 moved p 4 from 5^", "day 1 2 sunday s 3 moved p 4 from 5 ^", "day 1 2 sunday s 3 moved p 4 from 5 ^with a", "day 1 2 sunday s 3 moved p 4 from ^with a", "day 1 2 sunday s 3 moved p 4 from 5 6 ^7", "day 1 2 sunday s 3 moved p 4 from 5 6 ^from 5 6", "day 1 2 sunday s 3 moved p 4 from 5 6 with a ^from 5 6",
		// With and without.
		"day 1 2 sunday s 3 proper p 4 with^", "day 1 2 sunday s 3 proper p 4 with ^", "day 1 2 sunday s 3 proper p 4 without^", "day 1 2 sunday s 3 proper p 4 without ^", "day 1 2 sunday s 3 proper p 4 with a ^b", "day 1 2 sunday s 3 proper p 4 without a ^b", "day 1 2 sunday s 3 proper p 4 with a with^", "day 1 2 sunday s 3 proper p 4 with a without ^", "day 1 2 sunday s 3 proper p 4 with ^4",
		"day 1 2 sunday s 3 proper p 4 without a with^ b", "day 1 2 sunday s 3 proper p 4 with a without b with^ c", "day 1 2 sunday s 3 proper p 4 without a with^", "day 1 2 sunday s 3 proper p 4 without a without b with^ c", "day 1 2 sunday s 3 moved p 4 from 5 6 without a with^ b", "day 1 2 sunday s 3 proper p 4 without a wit^",
		"day 1 2 sunday s 3 proper p 4 with with ^a", "day 1 2 sunday s 3 proper p 4 without without ^a", "day 1 2 sunday s 3 proper p 4 with without ^a", "day 1 2 sunday s 3 ^with a proper p 4", "day 1 2 sunday s ^with a 3 proper p 4",
	})
}

// P27.2: the lines in front of the entries.
func TestParseOfOtherHeads(t *testing.T) {
	for _, marked := range []string{
		"^", "^\n", "^ calendar 2000\nend\n", "^Calendar 2000\nend\n", "calenda^\nend\n", "cal^ 2000\nend\n", "calendar^s 2000\nend\n", "ca^talogue 2000\nend\n", "ca^talogue\nfree 0\nend\n", "calendar^\nend\n", "calendar ^\nend\n", "calendar ^ 2000\nend\n", "calendar^\t2000\nend\n", "calendar^2000\nend\n", "calendar 2000^ \nend\n", "calendar 2000^\r\nend\n", "calendar 2000^ 1\nend\n", "calendar 2000^ end\n", "calendar 2000^,\nend\n", "^\ufeffcalendar 2000\nend\n", "^\rcalendar 2000\nend\n",
		"calendar 0^2000\nend\n", "calendar 0^0\nend\n", "calendar ^+2000\nend\n", "calendar -^0\nend\n", "calendar -^\nend\n", "calendar -^-1\nend\n", "calendar 1000000000^0\nend\n", "calendar -1000000000^0\nend\n", "calendar 9999999999^9\nend\n", "calendar ^x\nend\n", "calendar 2000^x\nend\n", "calendar ^gregorian\nend\n", "calendar 2000^.\nend\n",
		"^day 1 2 sunday s 3 proper p 4\nend\n", "^end\n", "^2000\nend\n", "calendar 2000\n^calendar 2000\nend\n", "calendar 2000\n^2000\nend\n", "calendar 2000\n^\nend\n", "calendar 2000\nday 1 2 sunday s 3 proper p 4\n^calendar 2000\nend\n",
	} {
		expectRejectedAtMark(t, marked)
	}
}

// P27.2: bytes behind the last line feed, and texts without it.
func TestParseOfOtherEnds(t *testing.T) {
	for _, text := range []string{"calendar 2000\nend\n", smallText} {
		for b := range 256 {
			expectRejected(t, text+string([]byte{byte(b)}), len(text))
		}
		for _, end := range []string{"\n\n", " end\n", "end\n", text, "day 1 2 sunday s 3 proper p 4\nend\n"} {
			expectRejected(t, text+end, len(text))
		}
		cut := strings.TrimSuffix(text, "\n")
		expectRejected(t, cut, len(cut))
		for _, end := range []string{" ", " \n", "\r\n", "\t\n", "\x00", "d\n", "\r"} {
			expectRejected(t, cut+end, len(cut))
		}
	}
}

// P27.2: lines that are missing, doubled, empty or in another place. The definition
// tells which of these texts are accepted.
func TestParseOfOtherOrders(t *testing.T) {
	form := textForm()
	for text := range grammar.ChangedLines(smallText) {
		expectByDefinition(t, form, text)
	}
	lines := slices.Collect(strings.Lines(smallText))
	// No end, no head, and one line of each only.
	expectRejected(t, strings.Join(lines[:5], ""), len(smallText)-4)
	expectRejected(t, strings.Join(lines[1:], ""), 0)
	for _, line := range lines[1:] {
		expectRejected(t, line, 0)
	}
	// A doubled and a missing entry are accepted.
	k := small()
	k.Entries = append(k.Entries[1:], k.Entries[1])
	expectText(t, k, lines[0]+lines[2]+lines[3]+lines[4]+lines[2]+lines[5])
}

// P27.2: one byte of a text is replaced by another one, removed or doubled.
func TestParseOfChangedBytes(t *testing.T) {
	form := textForm()
	for text := range grammar.ChangedBytes(smallText, "\x00\t\n\r +-.0159ADWZademnoprstuwxyz~\x7f\x80\xc3\xff") {
		expectByDefinition(t, form, text)
	}
	k := build(t, 2024)
	k.Entries = k.Entries[90:106]
	long := textByDefinition(k)
	for text := range grammar.ChangedBytes(long, " \n-0Ae") {
		expectByDefinition(t, form, text)
	}
}

// P27.2: every byte from 0 to 255, in the place of each byte of a short text and in
// front of it.
func TestParseOfEveryByte(t *testing.T) {
	form := textForm()
	text := "calendar 1\nday 1 -2 friday s-2 0 proper a 1\nday 3 4 sunday s 1 moved p 2 from 5 6 with b without c\nend\n"
	for changed := range grammar.ChangedBytes(text, grammar.AllBytes()) {
		expectByDefinition(t, form, changed)
	}
	for changed := range grammar.InsertedBytes(text, grammar.AllBytes()) {
		expectByDefinition(t, form, changed)
	}
}

// P27.2: texts that are put together at random from pieces of texts, most of which
// begin as a text does.
func TestParseOfRandomPieces(t *testing.T) {
	form := textForm()
	random := rand.New(rand.NewSource(2))
	rare := []string{
		"calendar", "day", "end", "from", "with", "without", "temporal", "proper", "moved", "sunday", "saturday", "a", "b-2", "x-", "0", "1", "-5", "-0", "007", "12345678901", " ", "  ", "\r\n", "\xff", "end\n",
	}
	frequent := []string{
		"day 1 2 sunday s 3 temporal s 8", "day 1 2 monday s 3 proper p 4", "day 5 6 friday s-2 -7 moved p 1 from 5 6", " with a", " with b", " without c", " without d", "\n", "\n",
	}
	accepted := 0
	for range 20000 {
		text := "calendar 0\n"
		for range random.Intn(8) {
			if random.Intn(8) == 0 {
				text += pick(random, rare)
			} else {
				text += pick(random, frequent)
			}
		}
		if random.Intn(2) == 0 {
			text += "\n"
		}
		text += "end\n"
		expectByDefinition(t, form, text)
		if strings.Contains(text, "day") {
			if _, _, errno := ordotext.Parse(text); errno == api.OK {
				accepted++
			}
		}
	}
	if accepted < 500 {
		t.Errorf("only %d texts with entries are accepted", accepted)
	}
}

// P27.2: the parts behind the rank, in every order of up to four of them, for each
// kind. The definition tells which of these texts are accepted.
func TestParseOfPartsBehindTheRank(t *testing.T) {
	form := textForm()
	parts := []string{" from 5 6", " with a", " with b-1", " without a", " without c"}
	texts := []string{""}
	for from := 0; len(texts) < 781; {
		last := len(texts)
		for _, text := range texts[from:last] {
			for _, part := range parts {
				texts = append(texts, text+part)
			}
		}
		from = last
	}
	for _, kind := range kindNames {
		for _, text := range texts {
			expectByDefinition(t, form, "calendar 7\nday 1 2 sunday s 3 "+kind+" p 4"+text+"\nend\n")
		}
	}
}

// P27.3: Print of Parse of a text is the text, and Parse of Print of a calendar is
// the calendar, again and again.
func TestPrintAndParseAreInverse(t *testing.T) {
	random := rand.New(rand.NewSource(3))
	for range 500 {
		want := randomCalendar(random)
		k, text := want, ""
		for range 3 {
			var offset int
			var errno api.Errno
			text = ordotext.Print(k)
			k, offset, errno = ordotext.Parse(text)
			if !same(k, want) || offset != 0 || errno != api.OK {
				t.Fatalf("Parse of %q is %v, %d, %d", text, k, offset, errno)
			}
			if ordotext.Print(k) != text {
				t.Fatalf("Print of Parse of %q is another text", text)
			}
		}
	}
}

// P27.3: different calendars have different texts.
func TestTextsAreDistinct(t *testing.T) {
	random := rand.New(rand.NewSource(4))
	known := map[string]api.Calendar{}
	for range 3000 {
		k := randomCalendar(random)
		text := ordotext.Print(k)
		if other, ok := known[text]; ok && !same(other, k) {
			t.Fatalf("%v and %v have the same text", other, k)
		}
		known[text] = k
	}
}
