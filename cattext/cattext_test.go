package cattext_test

import (
	"fmt"
	"math/rand"
	"reflect"
	"slices"
	"strings"
	"testing"

	"computus/api"
	"computus/builtin"
	"computus/catalogue"
	"computus/cattext"
)

// most is the greatest number of ten digits.
const most = 9_999_999_999

// dayNames are the names of the days of the week, from Sunday on.
var dayNames = []string{"sunday", "monday", "tuesday", "wednesday", "thursday", "friday", "saturday"}

// policyNames are the words of the policies.
var policyNames = map[int]string{api.Transfer: "transfer", api.Commemorate: "commemorate", api.Omit: "omit"}

// anchorByDefinition returns the text of an anchor, written out.
func anchorByDefinition(a api.Anchor) string {
	switch a.Kind {
	case api.Fixed:
		return fmt.Sprintf("fixed %d %d", a.Month, a.Day)
	case api.Paschal:
		return fmt.Sprintf("easter %d", a.Offset)
	}
	return fmt.Sprintf("nth %s %d %d %d", dayNames[a.Weekday], a.Count, a.Month, a.Day)
}

// textByDefinition returns the text of a printable catalogue, written out line by
// line.
func textByDefinition(c api.Catalogue) string {
	text := fmt.Sprintf("catalogue\nfree %d\n", c.Free)
	for _, s := range c.Seasons {
		text += fmt.Sprintf("season %s %d %d %s\n", s.ID, s.Sunday, s.Weekday, anchorByDefinition(s.Start))
	}
	for _, f := range c.Feasts {
		text += fmt.Sprintf("feast %s %d %s %s\n", f.ID, f.Rank, policyNames[f.Policy], anchorByDefinition(f.At))
	}
	return text + "end\n"
}

// same reports whether catalogues are equal, where nil and empty slices are the same.
func same(a, b api.Catalogue) bool {
	return a.Free == b.Free && slices.Equal(a.Seasons, b.Seasons) && slices.Equal(a.Feasts, b.Feasts)
}

// expectText tests the text of a catalogue, and that it is parsed to the catalogue.
func expectText(t *testing.T, c api.Catalogue, want string) {
	t.Helper()
	if text := cattext.Print(c); text != want {
		t.Errorf("Print(%v) is %q, want %q", c, text, want)
	}
	if got, offset, errno := cattext.Parse(want); !same(got, c) || offset != 0 || errno != api.OK {
		t.Errorf("Parse(%q) is %v, %d, %d; want %v, 0, 0", want, got, offset, errno, c)
	}
}

// fixed, easter and nth return anchors of the three kinds.
func fixed(month, day int) api.Anchor {
	return api.Anchor{Kind: api.Fixed, Month: month, Day: day}
}

func easter(offset int) api.Anchor {
	return api.Anchor{Kind: api.Paschal, Offset: offset}
}

func nth(weekday, count, month, day int) api.Anchor {
	return api.Anchor{Kind: api.Nth, Weekday: weekday, Count: count, Month: month, Day: day}
}

// small returns a catalogue with each kind of anchor and each policy, whose
// identifiers and numbers are short.
func small() api.Catalogue {
	return api.Catalogue{
		Free: 5,
		Seasons: []api.Season{
			{ID: "advent", Sunday: 2, Weekday: 7, Start: nth(api.Sunday, 1, 11, 27)},
			{ID: "lent-2", Sunday: -10, Weekday: 0, Start: easter(-46)},
			{ID: "yule", Sunday: 3, Weekday: 6, Start: fixed(12, 25)},
		},
		Feasts: []api.Feast{
			{ID: "joseph", Rank: 1, Policy: api.Transfer, At: fixed(3, 19)},
			{ID: "st-john-2", Rank: 0, Policy: api.Commemorate, At: nth(api.Thursday, -2, 6, 24)},
			{ID: "e", Rank: 9, Policy: api.Omit, At: easter(0)},
		},
	}
}

// smallText is the text of the small catalogue.
const smallText = `catalogue
free 5
season advent 2 7 nth sunday 1 11 27
season lent-2 -10 0 easter -46
season yule 3 6 fixed 12 25
feast joseph 1 transfer fixed 3 19
feast st-john-2 0 commemorate nth thursday -2 6 24
feast e 9 omit easter 0
end
`

// manyIDs are identifiers of several lengths.
var manyIDs = []string{
	"a", "z", "x9", "a-0", "fixed", "feast", "free", "end", "season", "easter", "nth", "omit", "monday", "catalogue", "st-john-2", "a-b-c-d-e", "a0123456789",
	strings.Repeat("x", 39), strings.Repeat("x", 40), strings.Repeat("a-", 19) + "ab", "x" + strings.Repeat("7", 39),
}

// manyNumbers are numbers of all lengths and both signs.
var manyNumbers = []int{0, 1, -1, 2, 5, 7, 9, -9, 10, -10, 12, 25, 31, -46, 99, 100, -365, 1000, 1234567890, -1000000000, most - 1, 1 - most, most, -most}

// pick returns one element of a list.
func pick[T any](random *rand.Rand, l []T) T {
	return l[random.Intn(len(l))]
}

// randomAnchor returns an anchor of any kind.
func randomAnchor(random *rand.Rand) api.Anchor {
	switch random.Intn(3) {
	case 0:
		return fixed(pick(random, manyNumbers), pick(random, manyNumbers))
	case 1:
		return easter(pick(random, manyNumbers))
	}
	return nth(random.Intn(7), pick(random, manyNumbers), pick(random, manyNumbers), pick(random, manyNumbers))
}

// randomCatalogue returns a printable catalogue with up to three seasons and feasts.
func randomCatalogue(random *rand.Rand) api.Catalogue {
	c := api.Catalogue{Free: pick(random, manyNumbers)}
	for range random.Intn(4) {
		c.Seasons = append(c.Seasons, api.Season{ID: pick(random, manyIDs), Sunday: pick(random, manyNumbers), Weekday: pick(random, manyNumbers), Start: randomAnchor(random)})
	}
	for range random.Intn(4) {
		c.Feasts = append(c.Feasts, api.Feast{ID: pick(random, manyIDs), Rank: pick(random, manyNumbers), Policy: 1 + random.Intn(3), At: randomAnchor(random)})
	}
	return c
}

// P26.1, P26.2: the examples of the chapter.
func TestExamples(t *testing.T) {
	expectText(t, api.Catalogue{}, "catalogue\nfree 0\nend\n")
	c, offset, errno := cattext.Parse("catalogue\nfree 00")
	if !reflect.DeepEqual(c, api.Catalogue{}) || offset != 16 || errno != api.ErrSyntax {
		t.Errorf("the second example is rejected with %v, %d, %d", c, offset, errno)
	}
}

// P26.1, P26.2: a catalogue without seasons and feasts, with each number as Free.
func TestEmptyCatalogue(t *testing.T) {
	for _, n := range manyNumbers {
		expectText(t, api.Catalogue{Free: n}, fmt.Sprintf("catalogue\nfree %d\nend\n", n))
		expectText(t, api.Catalogue{Free: n, Seasons: []api.Season{}, Feasts: []api.Feast{}}, fmt.Sprintf("catalogue\nfree %d\nend\n", n))
	}
	expectText(t, api.Catalogue{Free: 9999999999}, "catalogue\nfree 9999999999\nend\n")
	expectText(t, api.Catalogue{Free: -9999999999}, "catalogue\nfree -9999999999\nend\n")
}

// P26.1, P26.2: the small catalogue, whose text is written out, and parts of it.
func TestSmallCatalogue(t *testing.T) {
	expectText(t, small(), smallText)
	for seasons := range 4 {
		for feasts := range 4 {
			c := small()
			c.Seasons, c.Feasts = c.Seasons[:seasons], c.Feasts[:feasts]
			lines := strings.SplitAfter(smallText, "\n")
			want := strings.Join(slices.Concat(lines[:2+seasons], lines[5:5+feasts], lines[8:]), "")
			expectText(t, c, want)
		}
	}
}

// P26.1, P26.2: the built-in catalogue, with some of its lines written out.
func TestBuiltinCatalogue(t *testing.T) {
	c := builtin.Catalogue()
	expectText(t, c, textByDefinition(c))
	text := cattext.Print(c)
	for _, line := range []string{
		"free 5", "season baptism-tide 5 8 nth monday 1 1 8", "season lent 2 6 easter -46", "season christmas 3 6 fixed 12 25",
		"feast mary-mother-of-god 1 commemorate fixed 1 1", "feast baptism-of-the-lord 2 omit nth sunday 1 1 7", "feast joseph 1 transfer fixed 3 19", "feast ascension 1 commemorate easter 39",
	} {
		if !strings.Contains(text, "\n"+line+"\n") {
			t.Errorf("the text of the built-in catalogue has no line %q", line)
		}
	}
	if n := strings.Count(text, "\n"); n != 3+len(c.Seasons)+len(c.Feasts) {
		t.Errorf("the text of the built-in catalogue has %d lines", n)
	}
}

// P26.1, P26.2: each number in each place of each kind of anchor, and as a rank.
func TestNumbers(t *testing.T) {
	for _, n := range manyNumbers {
		for _, a := range []api.Anchor{fixed(n, 3), fixed(3, n), easter(n), nth(2, n, 4, 5), nth(2, 3, n, 5), nth(2, 3, 4, n), nth(0, n, n, n)} {
			for _, ranks := range [][2]int{{1, 2}, {n, 3}, {3, n}} {
				c := api.Catalogue{
					Free:    n,
					Seasons: []api.Season{{ID: "a", Sunday: ranks[0], Weekday: ranks[1], Start: a}},
					Feasts:  []api.Feast{{ID: "b", Rank: ranks[0], Policy: api.Omit, At: a}},
				}
				expectText(t, c, textByDefinition(c))
			}
		}
	}
}

// P26.1, P26.2: each policy, with each kind of anchor.
func TestPolicies(t *testing.T) {
	for policy, word := range policyNames {
		expectText(t, api.Catalogue{Feasts: []api.Feast{{ID: "b", Rank: 4, Policy: policy, At: fixed(1, 2)}}}, "catalogue\nfree 0\nfeast b 4 "+word+" fixed 1 2\nend\n")
		expectText(t, api.Catalogue{Feasts: []api.Feast{{ID: "b", Rank: 4, Policy: policy, At: easter(-3)}}}, "catalogue\nfree 0\nfeast b 4 "+word+" easter -3\nend\n")
		expectText(t, api.Catalogue{Feasts: []api.Feast{{ID: "b", Rank: 4, Policy: policy, At: nth(5, -1, 6, 7)}}}, "catalogue\nfree 0\nfeast b 4 "+word+" nth friday -1 6 7\nend\n")
	}
}

// P26.1, P26.2: each day of the week in an anchor of the kind Nth.
func TestDaysOfTheWeek(t *testing.T) {
	for day, name := range dayNames {
		c := api.Catalogue{Seasons: []api.Season{{ID: "s", Sunday: 1, Weekday: 2, Start: nth(day, 3, 4, 5)}}}
		expectText(t, c, "catalogue\nfree 0\nseason s 1 2 nth "+name+" 3 4 5\nend\n")
		c = api.Catalogue{Feasts: []api.Feast{{ID: "f", Rank: 1, Policy: api.Transfer, At: nth(day, -3, 4, 5)}}}
		expectText(t, c, "catalogue\nfree 0\nfeast f 1 transfer nth "+name+" -3 4 5\nend\n")
	}
}

// P26.1, P26.2: identifiers of 1 to 40 bytes, with digits and hyphens, also such as
// are words of the text.
func TestIdentifiers(t *testing.T) {
	for _, id := range manyIDs {
		if !catalogue.Identifier(id) {
			t.Fatalf("%q is no identifier", id)
		}
		expectText(t, api.Catalogue{Seasons: []api.Season{{ID: id, Sunday: 1, Weekday: 2, Start: easter(3)}}}, "catalogue\nfree 0\nseason "+id+" 1 2 easter 3\nend\n")
		expectText(t, api.Catalogue{Feasts: []api.Feast{{ID: id, Rank: 1, Policy: api.Omit, At: easter(3)}}}, "catalogue\nfree 0\nfeast "+id+" 1 omit easter 3\nend\n")
	}
	for n := 1; n <= 40; n++ {
		c := api.Catalogue{Feasts: []api.Feast{{ID: strings.Repeat("q", n), Rank: 1, Policy: api.Omit, At: easter(3)}}}
		expectText(t, c, textByDefinition(c))
	}
}

// P26.1, P26.2: catalogues that are printable but not well-formed: the same
// identifiers, too many seasons and feasts, and no days of a year.
func TestCataloguesThatAreNotWellFormed(t *testing.T) {
	season := api.Season{ID: "lent", Sunday: 1, Weekday: 2, Start: easter(-46)}
	feast := api.Feast{ID: "lent", Rank: 3, Policy: api.Omit, At: fixed(13, 32)}
	for _, c := range []api.Catalogue{
		{Seasons: []api.Season{season, season}},
		{Feasts: []api.Feast{feast, feast}},
		{Seasons: []api.Season{season}, Feasts: []api.Feast{feast}},
		{Free: 10, Seasons: slices.Repeat([]api.Season{season}, 21), Feasts: slices.Repeat([]api.Feast{feast}, 401)},
		{Free: -1, Feasts: []api.Feast{{ID: "a", Rank: 0, Policy: api.Transfer, At: nth(3, 0, 2, 30)}}},
		{Feasts: []api.Feast{{ID: "a", Rank: 10, Policy: api.Transfer, At: easter(1000)}}},
		{Seasons: []api.Season{{ID: "a", Sunday: 10, Weekday: -1, Start: fixed(0, 0)}}},
	} {
		if catalogue.Check(c) == api.OK {
			t.Errorf("%v is well-formed", c)
		}
		expectText(t, c, textByDefinition(c))
	}
}

// P26.1, P26.2, P26.3: random printable catalogues, against the definition.
func TestRandomCatalogues(t *testing.T) {
	random := rand.New(rand.NewSource(26))
	for range 3000 {
		c := randomCatalogue(random)
		expectText(t, c, textByDefinition(c))
	}
}

// P26.1, P26.2: a long text, and a long line that does not end.
func TestLongTexts(t *testing.T) {
	random := rand.New(rand.NewSource(27))
	var c api.Catalogue
	for range 1000 {
		part := randomCatalogue(random)
		c.Seasons, c.Feasts = append(c.Seasons, part.Seasons...), append(c.Feasts, part.Feasts...)
	}
	expectText(t, c, textByDefinition(c))
	expectRejected(t, "catalogue\nfree 1"+strings.Repeat("0", 1<<20), 25)
	expectRejected(t, "catalogue\nfree 1\nseason "+strings.Repeat("x", 1<<20), 64)
}

// P26.1: Print does not panic for catalogues that are not printable, either.
func TestPrintOfOtherCatalogues(t *testing.T) {
	for _, a := range []api.Anchor{{}, {Kind: 4}, {Kind: -1, Weekday: 9}, nth(7, 1, 2, 3), nth(-1, 1, 2, 3), fixed(-1<<63, 1<<63-1)} {
		for _, policy := range []int{0, 4, -1, 1<<63 - 1, -1 << 63} {
			c := api.Catalogue{Free: -1 << 63, Seasons: []api.Season{{ID: "\xff", Start: a}}, Feasts: []api.Feast{{ID: "", Policy: policy, At: a}}}
			if text := cattext.Print(c); !strings.HasPrefix(text, "catalogue\nfree -9223372036854775808\n") {
				t.Errorf("Print(%v) is %q", c, text)
			}
		}
	}
}
