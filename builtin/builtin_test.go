package builtin_test

import (
	"slices"
	"testing"

	"computus/anchor"
	"computus/api"
	"computus/builtin"
	"computus/catalogue"
)

func fixed(month, day int) api.Anchor {
	return api.Anchor{Kind: api.Fixed, Month: month, Day: day}
}

func paschal(offset int) api.Anchor {
	return api.Anchor{Kind: api.Paschal, Offset: offset}
}

// firstOn returns the anchor of the first day of the week on or after a date.
func firstOn(weekday, month, day int) api.Anchor {
	return api.Anchor{Kind: api.Nth, Month: month, Day: day, Weekday: weekday, Count: 1}
}

// wantSeasons returns the first table of the chapter.
func wantSeasons() []api.Season {
	row := func(id string, sunday, weekday int, start api.Anchor) api.Season {
		return api.Season{ID: id, Sunday: sunday, Weekday: weekday, Start: start}
	}
	return []api.Season{
		row("baptism-tide", 5, 8, firstOn(api.Monday, 1, 8)),
		row("lent", 2, 6, paschal(-46)),
		row("holy-week", 1, 1, paschal(-7)),
		row("easter-octave", 1, 1, paschal(0)),
		row("eastertide", 2, 8, paschal(8)),
		row("ordinary-time", 5, 8, paschal(50)),
		row("advent", 2, 7, firstOn(api.Sunday, 11, 27)),
		row("christmas", 3, 6, fixed(12, 25)),
	}
}

// wantFeasts returns the second table of the chapter.
func wantFeasts() []api.Feast {
	const transfer, commemorate, omit = api.Transfer, api.Commemorate, api.Omit
	row := func(id string, rank, policy int, at api.Anchor) api.Feast {
		return api.Feast{ID: id, Rank: rank, Policy: policy, At: at}
	}
	return []api.Feast{
		row("mary-mother-of-god", 1, commemorate, fixed(1, 1)),
		row("epiphany", 1, commemorate, fixed(1, 6)),
		row("baptism-of-the-lord", 2, omit, firstOn(api.Sunday, 1, 7)),
		row("conversion-of-paul", 4, omit, fixed(1, 25)),
		row("presentation", 2, omit, fixed(2, 2)),
		row("chair-of-peter", 4, commemorate, fixed(2, 22)),
		row("joseph", 1, transfer, fixed(3, 19)),
		row("annunciation", 1, transfer, fixed(3, 25)),
		row("ascension", 1, commemorate, paschal(39)),
		row("pentecost", 1, commemorate, paschal(49)),
		row("trinity", 1, commemorate, paschal(56)),
		row("corpus-christi", 1, commemorate, paschal(60)),
		row("sacred-heart", 1, commemorate, paschal(68)),
		row("john-baptist", 1, transfer, fixed(6, 24)),
		row("peter-and-paul", 1, transfer, fixed(6, 29)),
		row("transfiguration", 2, omit, fixed(8, 6)),
		row("assumption", 1, commemorate, fixed(8, 15)),
		row("exaltation-of-the-cross", 2, omit, fixed(9, 14)),
		row("all-saints", 1, commemorate, fixed(11, 1)),
		row("all-souls", 3, omit, fixed(11, 2)),
		row("christ-the-king", 1, omit, firstOn(api.Sunday, 11, 20)),
		row("andrew", 4, commemorate, fixed(11, 30)),
		row("immaculate-conception", 1, transfer, fixed(12, 8)),
		row("nativity", 1, commemorate, fixed(12, 25)),
		row("stephen", 4, commemorate, fixed(12, 26)),
	}
}

// wantNames returns the names of the seasons and then those of the feasts.
func wantNames() []string {
	return []string{
		"baptism-tide", "lent", "holy-week", "easter-octave", "eastertide", "ordinary-time", "advent", "christmas",
		"mary-mother-of-god", "epiphany", "baptism-of-the-lord", "conversion-of-paul", "presentation",
		"chair-of-peter", "joseph", "annunciation", "ascension", "pentecost", "trinity", "corpus-christi",
		"sacred-heart", "john-baptist", "peter-and-paul", "transfiguration", "assumption",
		"exaltation-of-the-cross", "all-saints", "all-souls", "christ-the-king", "andrew",
		"immaculate-conception", "nativity", "stephen",
	}
}

// expectCatalogue tests that a catalogue is that of the chapter.
func expectCatalogue(t *testing.T, c api.Catalogue) {
	t.Helper()
	if c.Free != 5 {
		t.Errorf("Free = %d, want 5", c.Free)
	}
	if len(c.Seasons) != 8 || len(c.Feasts) != 25 {
		t.Fatalf("there are %d seasons and %d feasts, want 8 and 25", len(c.Seasons), len(c.Feasts))
	}
	for i, want := range wantSeasons() {
		if c.Seasons[i] != want {
			t.Errorf("season %d = %+v, want %+v", i, c.Seasons[i], want)
		}
	}
	for i, want := range wantFeasts() {
		if c.Feasts[i] != want {
			t.Errorf("feast %d = %+v, want %+v", i, c.Feasts[i], want)
		}
	}
}

// expectNames tests that names are those of the chapter.
func expectNames(t *testing.T, got []string) {
	t.Helper()
	if !slices.Equal(got, wantNames()) {
		t.Errorf("names = %q, want %q", got, wantNames())
	}
}

// P24.1: Free, and each field of each season and of each feast, in the order of the
// tables.
func TestCatalogue(t *testing.T) {
	expectCatalogue(t, builtin.Catalogue())
}

// P24.1: the names of the seasons and then those of the feasts, in the order of the
// tables.
func TestNames(t *testing.T) {
	expectNames(t, builtin.Names())
}

// P24.1: the names are those of the catalogue.
func TestNamesOfTheCatalogue(t *testing.T) {
	c := builtin.Catalogue()
	var want []string
	for _, s := range c.Seasons {
		want = append(want, s.ID)
	}
	for _, f := range c.Feasts {
		want = append(want, f.ID)
	}
	if got := builtin.Names(); !slices.Equal(got, want) {
		t.Errorf("names = %q, want %q", got, want)
	}
}

// P24.1: the example of the chapter.
func TestExample(t *testing.T) {
	c, names := builtin.Catalogue(), builtin.Names()
	if len(c.Seasons) != 8 || len(c.Feasts) != 25 || len(names) != 33 {
		t.Fatalf("there are %d seasons, %d feasts and %d names", len(c.Seasons), len(c.Feasts), len(names))
	}
	if names[0] != "baptism-tide" || names[32] != "stephen" {
		t.Errorf("the first name is %s, and the last one %s", names[0], names[32])
	}
}

// P24.1: anchors of a kind have no value in the fields that belong to other kinds.
func TestFieldsOfOtherKinds(t *testing.T) {
	for id, a := range anchors() {
		switch a.Kind {
		case api.Fixed:
			if a.Offset != 0 || a.Weekday != 0 || a.Count != 0 {
				t.Errorf("%s is fixed, but its anchor is %+v", id, a)
			}
		case api.Paschal:
			if a.Month != 0 || a.Day != 0 || a.Weekday != 0 || a.Count != 0 {
				t.Errorf("%s follows Easter, but its anchor is %+v", id, a)
			}
		case api.Nth:
			if a.Offset != 0 || a.Count != 1 {
				t.Errorf("%s is a first day of the week, but its anchor is %+v", id, a)
			}
		default:
			t.Errorf("the anchor of %s is %+v", id, a)
		}
	}
}

// anchors returns the anchors of all seasons and feasts by their names.
func anchors() map[string]api.Anchor {
	c := builtin.Catalogue()
	l := map[string]api.Anchor{}
	for _, s := range c.Seasons {
		l[s.ID] = s.Start
	}
	for _, f := range c.Feasts {
		l[f.ID] = f.At
	}
	return l
}

// P24.2: the catalogue is well-formed, as are all of its parts.
func TestWellFormed(t *testing.T) {
	c := builtin.Catalogue()
	if errno := catalogue.Check(c); errno != api.OK {
		t.Errorf("Check: error %v", errno)
	}
	for _, s := range c.Seasons {
		if !catalogue.Season(s) || !anchor.Check(s.Start) {
			t.Errorf("%+v is not well-formed", s)
		}
	}
	for i, f := range c.Feasts {
		if !catalogue.Feast(f) || !anchor.Check(f.At) {
			t.Errorf("%+v is not well-formed", f)
		}
		if found := catalogue.Find(c, f.ID); found != i {
			t.Errorf("Find(%s) = %d, want %d", f.ID, found, i)
		}
	}
}

// P24.2: all names are different identifiers.
func TestNamesAreDistinctIdentifiers(t *testing.T) {
	seen := map[string]bool{}
	for _, name := range builtin.Names() {
		if !catalogue.Identifier(name) || seen[name] {
			t.Errorf("%q is no identifier, or is there twice", name)
		}
		seen[name] = true
	}
	if len(seen) != 33 {
		t.Errorf("there are %d names, want 33", len(seen))
	}
}
