package cattext

import (
	"strings"

	"computus/api"
	"computus/linescan"
	"computus/weekday"
)

// parser reads the parts of a text with a scanner. Once the scanner has failed, it
// accepts nothing more, so that the parser need not stop at once: what its methods
// return from then on is not used.
type parser struct {
	*linescan.Scanner
}

// Parse returns the printable catalogue whose text is s, 0 and OK. If there is none,
// it returns a zero catalogue, the offset of the first offending byte, and ErrSyntax.
func Parse(s string) (api.Catalogue, int, api.Errno) {
	p := parser{Scanner: linescan.New(s)}
	c := p.catalogue()
	if errno := p.Err(); errno != api.OK {
		return api.Catalogue{}, p.Offset(), errno
	}
	return c, 0, api.OK
}

// catalogue reads the whole text.
func (p parser) catalogue() api.Catalogue {
	var c api.Catalogue
	p.Word(catalogueWord + lineFeed)
	p.Word(freeWord + space)
	c.Free = p.number(lineFeed)
	for p.begins(seasonWord) {
		c.Seasons = append(c.Seasons, p.season())
	}
	for p.begins(feastWord) {
		c.Feasts = append(c.Feasts, p.feast())
	}
	p.Word(endWord + lineFeed)
	p.End()
	return c
}

// season reads the line of a season.
func (p parser) season() api.Season {
	var s api.Season
	p.Word(seasonWord + space)
	s.ID = p.identifier()
	s.Sunday = p.number(space)
	s.Weekday = p.number(space)
	s.Start = p.anchor()
	return s
}

// feast reads the line of a feast.
func (p parser) feast() api.Feast {
	var f api.Feast
	p.Word(feastWord + space)
	f.ID = p.identifier()
	f.Rank = p.number(space)
	f.Policy = api.Transfer + p.choice(policyWords())
	f.At = p.anchor()
	return f
}

// anchor reads an anchor, with which a line ends.
func (p parser) anchor() api.Anchor {
	switch p.choice([]string{fixedWord, easterWord, nthWord}) {
	case 0:
		return p.fixed()
	case 1:
		return p.easter()
	case 2:
		return p.nth()
	}
	return api.Anchor{}
}

// fixed reads an anchor of the kind Fixed behind its word.
func (p parser) fixed() api.Anchor {
	a := api.Anchor{Kind: api.Fixed}
	a.Month = p.number(space)
	a.Day = p.number(lineFeed)
	return a
}

// easter reads an anchor of the kind Paschal behind its word.
func (p parser) easter() api.Anchor {
	return api.Anchor{Kind: api.Paschal, Offset: p.number(lineFeed)}
}

// nth reads an anchor of the kind Nth behind its word.
func (p parser) nth() api.Anchor {
	a := api.Anchor{Kind: api.Nth}
	a.Weekday = p.choice(weekdayWords())
	a.Count = p.number(space)
	a.Month = p.number(space)
	a.Day = p.number(lineFeed)
	return a
}

// begins reports whether the next byte is the one with which a word begins. This
// suffices to tell the lines that may come next apart.
func (p parser) begins(word string) bool {
	return p.Peek() == word[0]
}

// choice reads one of the words and the space behind it, and returns its index.
func (p parser) choice(words []string) int {
	index := p.Word(words...)
	p.Word(space)
	return index
}

// number reads a number and what ends it.
func (p parser) number(end string) int {
	n := p.Number()
	p.Word(end)
	return n
}

// identifier reads an identifier and the space behind it.
func (p parser) identifier() string {
	// The result must not share memory with the text.
	id := strings.Clone(p.Identifier())
	p.Word(space)
	return id
}

// weekdayWords returns the names of the days of the week, from Sunday on.
func weekdayWords() []string {
	var words []string
	for day := api.Sunday; day <= api.Saturday; day++ {
		words = append(words, weekday.Name(day))
	}
	return words
}
