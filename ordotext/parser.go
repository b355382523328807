package ordotext

import (
	"strings"

	"computus/api"
	"computus/linescan"
	"computus/weekday"
)

// parser reads the parts of a text with a scanner. Once the scanner has failed, it
// accepts nothing more, so that the parser need not stop at once: what its methods
// return from then on is not used.
type parser struct {
	*linescan.Scanner
}

// Parse returns the printable calendar whose text is s, 0 and OK. If there is none,
// it returns a zero calendar, the offset of the first offending byte, and ErrSyntax.
func Parse(s string) (api.Calendar, int, api.Errno) {
	p := parser{Scanner: linescan.New(s)}
	k := p.calendar()
	if errno := p.Err(); errno != api.OK {
		return api.Calendar{}, p.Offset(), errno
	}
	return k, 0, api.OK
}

// calendar reads the whole text.
func (p parser) calendar() api.Calendar {
	var k api.Calendar
	p.Word(calendarWord + space)
	k.Year = p.Number()
	p.Word(lineFeed)
	for p.Word(dayWord, endWord+lineFeed) == 0 {
		k.Entries = append(k.Entries, p.entry(k.Year))
	}
	p.End()
	return k
}

// entry reads the line of an entry behind its first word.
func (p parser) entry(year int) api.Entry {
	var e api.Entry
	for _, read := range p.parts(&e) {
		p.Word(space)
		read()
	}
	e.Date.Year = year
	if e.Kind == api.Moved {
		e.From = p.origin(year)
	}
	p.others(&e)
	return e
}

// parts returns the functions that read the parts that the line of every entry has,
// in order, and store them in e. A space is in front of each part.
func (p parser) parts(e *api.Entry) []func() {
	return []func(){
		func() { e.Date.Month = p.Number() },
		func() { e.Date.Day = p.Number() },
		func() { e.Weekday = p.Word(weekdayWords()...) },
		func() { e.Season = p.identifier() },
		func() { e.Week = p.Number() },
		func() { e.Kind = api.Temporal + p.Word(kindWords()...) },
		func() { e.Principal = p.identifier() },
		func() { e.Rank = p.Number() },
	}
}

// origin reads the date in the year on which a feast that was moved would have been.
func (p parser) origin(year int) api.Date {
	d := api.Date{Year: year}
	p.Word(space + fromWord + space)
	d.Month = p.Number()
	p.Word(space)
	d.Day = p.Number()
	return d
}

// others reads the commemorated and the omitted celebrations, and the end of the
// line. No commemorated one may follow an omitted one.
func (p parser) others(e *api.Entry) {
	// With the space behind it, the one word is no prefix of the other one.
	possible := []string{lineFeed, space + withoutWord + space, space + withWord + space}
	for {
		switch p.Word(possible...) {
		case 2:
			e.Commem = append(e.Commem, p.identifier())
		case 1:
			e.Omitted = append(e.Omitted, p.identifier())
			possible = possible[:2]
		default:
			return
		}
	}
}

// identifier reads an identifier.
func (p parser) identifier() string {
	// The result must not share memory with the text.
	return strings.Clone(p.Identifier())
}

// weekdayWords returns the names of the days of the week, from Sunday on. None of
// them is a prefix of another one.
func weekdayWords() []string {
	names := make([]string, api.Saturday+1)
	for day := range names {
		names[day] = weekday.Name(day)
	}
	return names
}
