package query

import (
	"errors"
	"testing"

	"computus/api"
)

// P28.2: what a panic makes of an answer: the error and the offset of a failure. Any
// other panic, which no query causes, does not seem to be an answer.
func TestRefusal(t *testing.T) {
	for _, c := range []struct {
		signal any
		want   Answer
	}{
		{failure{errno: api.ErrRange}, Answer{Err: api.ErrRange}},
		{failure{errno: api.ErrSyntax, offset: 16}, Answer{Err: api.ErrSyntax, Offset: 16}},
		{api.ErrRange, Answer{Err: api.ErrArg}}, {"text", Answer{Err: api.ErrArg}}, {errors.New("text"), Answer{Err: api.ErrArg}},
	} {
		if got := refusal(c.signal); got != c.want {
			t.Errorf("refusal(%v) = %+v, want %+v", c.signal, got, c.want)
		}
	}
}
