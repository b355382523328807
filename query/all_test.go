package query_test

import (
	"math/rand"
	"slices"
	"strings"
	"testing"
	"unsafe"

	"computus/api"
	"computus/query"
)

// junkQuery and junkAnswer are written into slices that must not be shared.
var (
	junkQuery  = query.Query{Kind: 77, Calendar: 78, Method: 79, Year: 80, Date: api.Date{Year: 81, Month: 82, Day: 83}, Text: "junk"}
	junkAnswer = query.Answer{Text: "junk", Offset: 77, Err: 78}
)

// queries returns the queries of a list.
func queries(l []known) []query.Query {
	var qs []query.Query
	for _, k := range l {
		qs = append(qs, k.q)
	}
	return qs
}

// wanted returns the answers of a list.
func wanted(l []known) []query.Answer {
	var answers []query.Answer
	for _, k := range l {
		answers = append(answers, k.want)
	}
	return answers
}

// expectAll tests the answers to a list of queries.
func expectAll(t *testing.T, l []known) {
	t.Helper()
	got := query.All(queries(l))
	if len(got) != len(l) {
		t.Fatalf("%d queries have %d answers", len(l), len(got))
	}
	for i, k := range l {
		if got[i] != k.want {
			t.Errorf("the answer %d, to %+v, is %+v, want %+v", i, shortQuery(k.q), shortAnswer(got[i]), shortAnswer(k.want))
		}
	}
}

// fill writes junk into answers, into their unused capacity, and behind them.
func fill(answers []query.Answer) {
	_ = append(answers, junkAnswer)
	answers = answers[:cap(answers)]
	for i := range answers {
		answers[i] = junkAnswer
	}
	_ = append(answers, junkAnswer)
}

// P28.3: no query, one query, and many.
func TestAll(t *testing.T) {
	if answers := query.All(nil); len(answers) != 0 {
		t.Errorf("no query has the answers %v", answers)
	}
	if answers := query.All([]query.Query{}); len(answers) != 0 {
		t.Errorf("no query has the answers %v", answers)
	}
	l := knownAnswers(t)
	for _, k := range l {
		expectAll(t, []known{k})
	}
	expectAll(t, l)
	var easters []known
	for year := range 100_000 {
		q := easterQuery(api.Julian, api.ByGauss, year)
		easters = append(easters, known{q, query.Ask(q)})
	}
	expectAll(t, easters)
}

// P28.3: an answer does not depend on the queries before and behind it, nor on how
// often they are repeated: each two queries in turn, all of them in several orders, and
// repeated.
func TestAllInSeveralOrders(t *testing.T) {
	l := knownAnswers(t)
	for _, a := range l {
		for _, b := range l {
			expectAll(t, []known{a, b, a, a})
		}
	}
	backwards := slices.Clone(l)
	slices.Reverse(backwards)
	expectAll(t, backwards)
	expectAll(t, slices.Concat(l, backwards, l))
	random := rand.New(rand.NewSource(28))
	for range 20 {
		shuffled := slices.Repeat(l, 1+random.Intn(3))
		random.Shuffle(len(shuffled), func(i, j int) { shuffled[i], shuffled[j] = shuffled[j], shuffled[i] })
		expectAll(t, shuffled)
	}
}

// P28.2, P28.3: a query has the same answer again, whatever was asked in between.
func TestAskInTurn(t *testing.T) {
	l := knownAnswers(t)
	for range 3 {
		for _, k := range l {
			expect(t, k.q, k.want)
			expect(t, query.Query{}, refused(api.ErrArg))
			expect(t, k.q, k.want)
		}
	}
}

// P28.5: the queries are the same after a call, also in the capacity in front of the
// slice and behind it.
func TestQueriesAreNotModified(t *testing.T) {
	l := knownAnswers(t)
	n := len(l)
	for _, used := range []int{0, 1, n / 2, n} {
		whole := slices.Concat([]query.Query{junkQuery}, queries(l), []query.Query{junkQuery, junkQuery})
		before := slices.Clone(whole)
		answers := query.All(whole[1 : 1+used])
		if !slices.Equal(whole, before) {
			t.Errorf("the first %d queries have changed", used)
		}
		if !slices.Equal(answers, wanted(l[:used])) {
			t.Errorf("the answers to the first %d queries are not theirs", used)
		}
		fill(answers)
		if !slices.Equal(whole, before) {
			t.Errorf("the first %d queries have changed with the answers", used)
		}
	}
}

// P28.3: answers share no memory with the answers of another call, nor with the
// queries.
func TestAnswersShareNoMemory(t *testing.T) {
	l := knownAnswers(t)
	for used := range len(l) + 1 {
		qs := queries(l[:used])
		first, second := query.All(qs), query.All(qs)
		fill(first)
		for i := range qs {
			qs[i] = junkQuery
		}
		if !slices.Equal(second, wanted(l[:used])) {
			t.Errorf("the answers to the first %d queries have changed", used)
		}
	}
	expectAll(t, l)
}

// shares reports whether two texts share memory.
func shares(a, b string) bool {
	if a == "" || b == "" {
		return false
	}
	start, other := uintptr(unsafe.Pointer(unsafe.StringData(a))), uintptr(unsafe.Pointer(unsafe.StringData(b)))
	return start < other+uintptr(len(b)) && other < start+uintptr(len(a))
}

// P28.2, P28.5: the texts of answers share no memory with the texts of queries, nor
// with each other; the texts of queries are the same after a call.
func TestTextsShareNoMemory(t *testing.T) {
	for _, k := range knownAnswers(t) {
		given := strings.Clone(k.q.Text)
		k.q.Text = given
		answers := query.All([]query.Query{k.q, k.q})
		if shares(answers[0].Text, given) || shares(answers[1].Text, given) || shares(answers[0].Text, answers[1].Text) {
			t.Errorf("the answers to %+v share memory", shortQuery(k.q))
		}
		if k.q.Text != given || !slices.Equal(answers, []query.Answer{k.want, k.want}) {
			t.Errorf("the answers to %+v are others in turn", shortQuery(k.q))
		}
	}
}
