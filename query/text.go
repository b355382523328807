package query

import (
	"computus/api"
	"computus/builtin"
	"computus/butcher"
	"computus/cattext"
	"computus/civil"
	"computus/easter"
	"computus/gauss"
	"computus/ordo"
	"computus/ordotext"
	"computus/orthodox"
)

// failure is the error with which a function of this file panics if a query has no
// text, and the offset if the error is ErrSyntax.
type failure struct {
	errno  api.Errno
	offset int
}

// refusal returns the answer to a query for which a panic has been recovered.
func refusal(signal any) Answer {
	f, ok := signal.(failure)
	if !ok {
		// The lower layers do not panic. If one did, the query would have no text either.
		return Answer{Err: api.ErrArg}
	}
	return Answer{Offset: f.offset, Err: f.errno}
}

// must panics with an error and its offset, unless the error is OK.
func must(offset int, errno api.Errno) {
	if errno != api.OK {
		panic(failure{errno, offset})
	}
}

// text returns the text of the answer to a query, or panics.
func text(q Query) string {
	answer, ok := answers()[q.Kind]
	if !ok {
		panic(failure{errno: api.ErrArg})
	}
	return answer(q)
}

// answers returns the functions that return the texts of the answers to the queries
// of each kind, or panic.
func answers() map[int]func(Query) string {
	return map[int]func(Query) string{
		Easter:   easterText,
		Orthodox: orthodoxText,
		Convert:  convertText,
		Ordo:     ordoText,
		Builtin:  builtinText,
		Where:    whereText,
	}
}

func easterText(q Query) string {
	switch q.Method {
	case api.ByTable:
		return mustDateText(easter.Date(q.Calendar, q.Year))
	case api.ByGauss:
		return mustDateText(gauss.Date(q.Calendar, q.Year))
	case api.ByButcher:
		return mustDateText(butcher.Date(q.Calendar, q.Year))
	}
	panic(failure{errno: api.ErrArg})
}

func orthodoxText(q Query) string {
	return mustDateText(orthodox.Date(q.Year))
}

func convertText(q Query) string {
	// If the calendar of the query is none, layer 5 refuses it, whatever the other is.
	other := api.Julian
	if q.Calendar == api.Julian {
		other = api.Gregorian
	}
	return mustDateText(civil.Convert(q.Date, q.Calendar, other))
}

func ordoText(q Query) string {
	c, offset, errno := cattext.Parse(q.Text)
	must(offset, errno)
	return ordotext.Print(mustBuild(c, q.Year))
}

func builtinText(q Query) string {
	return ordotext.Print(mustBuild(builtin.Catalogue(), q.Year))
}

func whereText(q Query) string {
	d, ok := ordo.Where(mustBuild(builtin.Catalogue(), q.Year), q.Text)
	if !ok {
		panic(failure{errno: api.ErrArg})
	}
	return DateText(d)
}

// mustDateText returns the text of a date that a lower layer has returned, or panics with
// its error.
func mustDateText(d api.Date, errno api.Errno) string {
	must(0, errno)
	return DateText(d)
}

// mustBuild returns the calendar of a year for a catalogue, or panics with its error.
func mustBuild(c api.Catalogue, year int) api.Calendar {
	k, errno := ordo.Build(c, year)
	must(0, errno)
	return k
}
