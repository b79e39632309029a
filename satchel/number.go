package satchel

import (
	"errors"

	"satchel/api"
	"satchel/bundle"
	"satchel/client"
	"satchel/deflate"
	"satchel/fault"
	"satchel/info"
	"satchel/mirrors"
	"satchel/names"
	"satchel/sums"
	"satchel/walk"
)

// number tells the outermost fault's number: what it wraps is why, and not for the caller.
func number(err error) api.Errno {
	if err == nil {
		return api.OK
	}
	var outermost *fault.Fault
	if errors.As(err, &outermost) {
		err = outermost.What
	}
	switch {
	case errors.Is(err, fault.ErrArg):
		return api.ErrArg
	case errors.Is(err, mirrors.ErrMirrors):
		return api.ErrMirrors
	case errors.Is(err, sums.ErrSums):
		return api.ErrSums
	case errors.Is(err, names.ErrName):
		return api.ErrName
	case errors.Is(err, names.ErrVersion):
		return api.ErrVersion
	case errors.Is(err, deflate.ErrDeflate):
		return api.ErrDeflate
	case errors.Is(err, bundle.ErrBundle):
		return api.ErrBundle
	case errors.Is(err, info.ErrInfo):
		return api.ErrInfo
	case errors.Is(err, sums.ErrNoSum):
		return api.ErrNoSum
	case errors.Is(err, walk.ErrSum):
		return api.ErrSum
	case errors.Is(err, walk.ErrOff):
		return api.ErrOff
	case errors.Is(err, walk.ErrDirect):
		return api.ErrDirect
	case errors.Is(err, walk.ErrNotFound):
		return api.ErrNotFound
	case errors.Is(err, walk.ErrFailed):
		return api.ErrFailed
	case errors.Is(err, client.ErrNone):
		return api.ErrNone
	}
	// An error without a number of its own must not pass for OK.
	return api.ErrArg
}
