package valid

import (
	"errors"
	"fmt"
	"slices"
	"strings"
	"testing"

	"arboret/api"
)

// The tests of this file are P15.2's: the errors that Check answers, and what Cause takes out of them.

func expectCause(t *testing.T, what string, err error, want api.Errno, paths ...string) {
	t.Helper()
	if e, l := Cause(err); e != want || !slices.Equal(l, paths) {
		t.Errorf("%s: Cause(%v) = %v, %q, not %v, %q", what, err, e, l, want, paths)
	}
}

// wrong answers what Check answers of a node a, or of the tree whose root's name is wrong.
func wrong() (ofNode, ofTree error) {
	return Check(rooted(with(node("b"), node("a", texts("compatible", "x"))))), Check(api.Tree{Root: node("x")})
}

func TestCause(t *testing.T) {
	ofNode, ofTree := wrong()
	expectCause(t, "nil", nil, api.OK)
	expectCause(t, "of a node", ofNode, api.ErrKnown, "/b/a")
	expectCause(t, "of the tree", ofTree, api.ErrName)
	expectCause(t, "wrapped", fmt.Errorf("ahead %w behind", ofNode), api.ErrKnown, "/b/a")
	expectCause(t, "wrapped twice", fmt.Errorf("x: %w", fmt.Errorf("y: %w", ofNode)), api.ErrKnown, "/b/a")
	expectCause(t, "wrapped, of the tree", fmt.Errorf("x: %w", ofTree), api.ErrName)
	for e := api.OK; e <= api.ErrFull; e++ {
		expectCause(t, "a number", e, e)
		expectCause(t, "a number, wrapped", fmt.Errorf("x: %w", e), e)
	}
	expectCause(t, "a number that has no name", api.Errno(-7), -7)
}

func TestCauseWithoutANumber(t *testing.T) {
	ofNode, _ := wrong()
	expectCause(t, "a text", errors.New("x"), api.ErrArg)
	expectCause(t, "the same text", errors.New(ofNode.Error()), api.ErrArg)
	expectCause(t, "not wrapped", fmt.Errorf("x: %v", ofNode), api.ErrArg)
	expectCause(t, "wrapped", fmt.Errorf("x: %w", errors.New("y")), api.ErrArg)
	expectCause(t, "wraps nil", fmt.Errorf("x: %w", error(nil)), api.ErrArg)
	expectCause(t, "joined", errors.Join(errors.New("x"), errors.New("y")), api.ErrArg)
	expectCause(t, "joined with nil", errors.Join(nil, errors.New("y")), api.ErrArg)
	expectCause(t, "an empty one", empty{}, api.ErrArg)
	expectCause(t, "a nil pointer", (*empty)(nil), api.ErrArg)
}

func TestCauseOfSeveralPaths(t *testing.T) {
	in := fault{"/a", fault{"/b", fault{"/c", api.ErrLoop}}}
	expectCause(t, "the outermost first", in, api.ErrLoop, "/a", "/b", "/c")
	expectCause(t, "wrapped", fmt.Errorf("x: %w", in), api.ErrLoop, "/a", "/b", "/c")
	expectCause(t, "the same twice", fault{"/a", fault{"/a", api.ErrForm}}, api.ErrForm, "/a", "/a")
	e, l := Cause(in)
	l[0] = "x"
	_ = append(l, "y")
	expectCause(t, "again", in, e, "/a", "/b", "/c")
	deep := error(api.ErrRange)
	for range 1 << 12 {
		deep = fault{"/n", deep}
	}
	expectCause(t, "many", deep, api.ErrRange, slices.Repeat([]string{"/n"}, 1<<12)...)
}

// Of errors that are joined the first one with a number tells it, and only what is on the way to that.
func TestCauseOfJoinedErrors(t *testing.T) {
	a, b, text := fault{"/a", api.ErrLoop}, fault{"/b", api.ErrRange}, errors.New("x")
	expectCause(t, "two", errors.Join(a, b), api.ErrLoop, "/a")
	expectCause(t, "the other way round", errors.Join(b, a), api.ErrRange, "/b")
	expectCause(t, "behind a text", errors.Join(text, a, b), api.ErrLoop, "/a")
	expectCause(t, "ahead of a text", fmt.Errorf("%w %w", a, text), api.ErrLoop, "/a")
	expectCause(t, "behind a number", errors.Join(api.ErrFull, a), api.ErrFull)
	expectCause(t, "behind a wrapped number", errors.Join(fmt.Errorf("x: %w", api.ErrFull), a), api.ErrFull)
	expectCause(t, "behind the same number", errors.Join(api.ErrLoop, a), api.ErrLoop)
	expectCause(t, "ahead of a number", errors.Join(a, api.ErrFull), api.ErrLoop, "/a")
	expectCause(t, "joined in joined ones", errors.Join(text, errors.Join(text, fmt.Errorf("%w %w", text, errors.Join(b, a))), api.ErrFull), api.ErrRange, "/b")
	expectCause(t, "wrapped and joined", fmt.Errorf("x: %w", errors.Join(text, fmt.Errorf("y: %w", fault{"/c", a}))), api.ErrLoop, "/c", "/a")
}

// empty is an error of no number, whose methods can't be called of a nil pointer.
type empty struct{}

func (empty) Error() string { return "empty" }

func (empty) Unwrap() error { return nil }

// strange is an error whose methods do what they like.
type strange struct{ in []error }

func (s strange) Error() string { return "strange" }

func (s strange) Unwrap() []error { return s.in }

func (s strange) As(target any) bool {
	if e, ok := target.(*api.Errno); ok {
		*e = api.ErrFull
		return true
	}
	return false
}

type angry struct{}

func (angry) Error() string { panic("angry") }

func (angry) Unwrap() error { panic("angry") }

func TestCauseOfStrangeErrors(t *testing.T) {
	expectCause(t, "one that panics", angry{}, api.ErrArg)
	expectCause(t, "one that panics, behind a number", errors.Join(fault{"/a", api.ErrLoop}, angry{}), api.ErrLoop, "/a")
	expectCause(t, "one that panics, wrapped", fmt.Errorf("%w", error(fault{"/a", angry{}})), api.ErrArg)
	expectCause(t, "one that is a number only if it is asked", strange{}, api.ErrFull)
	expectCause(t, "one that joins others beside it", strange{[]error{nil, fault{"/a", api.ErrLoop}}}, api.ErrFull)
	var l []error
	l = append(l, nil, uncomparable{"x"}, fault{"/a", api.ErrLoop})
	expectCause(t, "beside one that can't be compared", errors.Join(l...), api.ErrLoop, "/a")
	expectCause(t, "one that can't be compared", uncomparable{"x"}, api.ErrArg)
}

type uncomparable []string

func (u uncomparable) Error() string { return strings.Join(u, " ") }

func TestErrorsAreValues(t *testing.T) {
	ofNode, ofTree := wrong()
	again, of := wrong()
	if ofNode != again || ofTree != of {
		t.Error("errors of one tree aren't the same")
	}
	if !errors.Is(ofNode, again) || errors.Is(ofNode, ofTree) || errors.Is(ofNode, fault{"/b", api.ErrKnown}) {
		t.Error("they are told apart wrongly")
	}
	var e api.Errno
	if !errors.As(ofNode, &e) || e != api.ErrKnown || !errors.As(ofTree, &e) || e != api.ErrName {
		t.Error("they don't wrap their numbers")
	}
	if s := ofNode.Error(); s != "/b/a: "+api.ErrKnown.Error() {
		t.Error(s)
	}
}
