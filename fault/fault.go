// Package fault: what goes wrong on the way, and what was wrong below it.
package fault

import "errors"

// ErrArg is a number or a list that may not be, whatever package was handed it.
var ErrArg = errors.New("no such argument")

// Fault says what went wrong, by an error of the package that found it, and wraps why.
type Fault struct {
	What  error
	Below error
}

// Of makes a fault; below may be nil.
func Of(what error, below error) error {
	return &Fault{What: what, Below: below}
}

// Error tells the whole chain, the outermost first.
func (f *Fault) Error() string {
	if f.Below == nil {
		return f.What.Error()
	}
	return f.What.Error() + ": " + f.Below.Error()
}

// Is lets errors.Is find What, which Unwrap passes by.
func (f *Fault) Is(target error) bool {
	return target == f.What
}

// Unwrap tells what was wrong below.
func (f *Fault) Unwrap() error {
	return f.Below
}
