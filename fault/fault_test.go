package fault

import (
	"errors"
	"testing"
)

var (
	errOuter = errors.New("outer")
	errInner = errors.New("inner")
	errWhy   = errors.New("why")
	errOther = errors.New("other")
)

func TestAFaultWrapsWhatWasBelow(t *testing.T) {
	err := Of(errOuter, Of(errInner, errWhy))
	for _, want := range []error{errOuter, errInner, errWhy} {
		if !errors.Is(err, want) {
			t.Errorf("%q does not wrap %q", err, want)
		}
	}
	if errors.Is(err, errOther) {
		t.Errorf("%q wraps %q", err, errOther)
	}
	if got := err.Error(); got != "outer: inner: why" {
		t.Errorf("Error() = %q", got)
	}
}

func TestTheOutermostFaultIsFoundFirst(t *testing.T) {
	var f *Fault
	if !errors.As(Of(errOuter, Of(errInner, errWhy)), &f) || f.What != errOuter {
		t.Errorf("errors.As found %v", f)
	}
}

func TestAFaultWithNothingBelow(t *testing.T) {
	err := Of(errOuter, nil)
	if err.Error() != "outer" || errors.Unwrap(err) != nil || !errors.Is(err, errOuter) {
		t.Errorf("got %q, with %v below", err, errors.Unwrap(err))
	}
}
