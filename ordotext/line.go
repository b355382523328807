package ordotext

import (
	"strconv"
	"strings"

	"computus/api"
)

// words are the words and numbers of a line, in order.
type words []string

// add appends a word.
func (w *words) add(word string) {
	*w = append(*w, word)
}

// joined returns the text of the words.
func (w words) joined() string {
	return strings.Join(w, space)
}

// line is a line that is being built. Its own methods append to it and return it, so
// that a line is a chain of their calls.
type line struct {
	words
}

// word appends a word.
func (l *line) word(word string) *line {
	l.add(word)
	return l
}

// number appends a number.
func (l *line) number(n int) *line {
	return l.word(strconv.Itoa(n))
}

// day appends the month and day of a date.
func (l *line) day(d api.Date) *line {
	return l.number(d.Month).number(d.Day)
}

// each appends, for each identifier, a word and the identifier.
func (l *line) each(word string, ids []string) *line {
	for _, id := range ids {
		l.word(word).word(id)
	}
	return l
}
