package cattext_test

import (
	"reflect"
	"strings"
	"testing"

	"computus/api"
	"computus/cattext"
)

// junkSeason and junkFeast are written into slices that must not be shared.
var (
	junkSeason = api.Season{ID: "junk", Sunday: 77, Weekday: 78, Start: api.Anchor{Kind: 79}}
	junkFeast  = api.Feast{ID: "junk", Rank: 77, Policy: 78, At: api.Anchor{Kind: 79}}
)

// spoil writes junk into the slices of a catalogue, also into their unused capacity.
func spoil(c api.Catalogue) {
	for i := range c.Seasons[:cap(c.Seasons)] {
		c.Seasons[:cap(c.Seasons)][i] = junkSeason
	}
	for i := range c.Feasts[:cap(c.Feasts)] {
		c.Feasts[:cap(c.Feasts)][i] = junkFeast
	}
}

// P26.4: Print modifies neither a catalogue nor the unused capacity of its slices.
func TestPrintModifiesNothing(t *testing.T) {
	for used := range 4 {
		seasons, feasts := append(small().Seasons, junkSeason, junkSeason), append(small().Feasts, junkFeast, junkFeast)
		c := api.Catalogue{Free: 5, Seasons: seasons[:used], Feasts: feasts[:used]}
		cattext.Print(c)
		if !reflect.DeepEqual(seasons, append(small().Seasons, junkSeason, junkSeason)) || !reflect.DeepEqual(feasts, append(small().Feasts, junkFeast, junkFeast)) {
			t.Errorf("Print of a catalogue with %d seasons and feasts has changed it", used)
		}
		if c.Free != 5 || len(c.Seasons) != used || len(c.Feasts) != used {
			t.Errorf("Print has changed a catalogue to %v", c)
		}
	}
}

// P26.4: a text remains as it is when the catalogue from which it was printed changes.
func TestTextsShareNoMemory(t *testing.T) {
	c := small()
	text := cattext.Print(c)
	spoil(c)
	if text != smallText {
		t.Errorf("the text has become %q", text)
	}
	if again := cattext.Print(small()); again != smallText {
		t.Errorf("the next text is %q", again)
	}
}

// P26.4: catalogues that were parsed share no memory with each other, also none that
// is not used yet, and a text is the same after Parse.
func TestCataloguesShareNoMemory(t *testing.T) {
	text := strings.Clone(smallText)
	first, _, _ := cattext.Parse(text)
	second, _, _ := cattext.Parse(text)
	spoil(first)
	first.Seasons, first.Feasts = append(first.Seasons, junkSeason), append(first.Feasts, junkFeast)
	if !same(second, small()) {
		t.Errorf("another catalogue has become %v", second)
	}
	if third, _, _ := cattext.Parse(text); !same(third, small()) {
		t.Errorf("the next catalogue is %v", third)
	}
	if text != smallText {
		t.Errorf("the text has become %q", text)
	}
}

// P26.4: the slices of one catalogue share no memory with each other.
func TestSlicesOfACatalogueAreApart(t *testing.T) {
	c, _, _ := cattext.Parse(smallText)
	c.Seasons = append(c.Seasons, junkSeason)
	c.Seasons[0] = junkSeason
	if !reflect.DeepEqual(c.Feasts, small().Feasts) {
		t.Errorf("the feasts have become %v", c.Feasts)
	}
}

// P26.2, P26.4: the results of calls in turn, also after a text that is rejected.
func TestCallsInTurn(t *testing.T) {
	for range 3 {
		expectText(t, small(), smallText)
		expectRejected(t, smallText[:40], 40)
		expectText(t, api.Catalogue{}, "catalogue\nfree 0\nend\n")
		expectRejected(t, smallText+"x", len(smallText))
	}
}
