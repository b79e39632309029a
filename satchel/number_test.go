package satchel

import (
	"errors"
	"testing"

	"satchel/api"
	"satchel/bundle"
	"satchel/client"
	"satchel/deflate"
	"satchel/fault"
	"satchel/info"
	"satchel/mirrors"
	"satchel/names"
	"satchel/sums"
	"satchel/walk"
)

func TestNumber(t *testing.T) {
	strange := errors.New("strange")
	for _, c := range []struct {
		err  error
		want api.Errno
	}{
		{nil, api.OK},
		{names.ErrName, api.ErrName},
		{fault.Of(names.ErrName, nil), api.ErrName},
		{fault.Of(names.ErrName, strange), api.ErrName},
		{fault.Of(names.ErrVersion, strange), api.ErrVersion},
		{fault.Of(names.ErrVersion, fault.Of(names.ErrName, strange)), api.ErrVersion},
		{fault.Of(names.ErrName, fault.Of(names.ErrVersion, strange)), api.ErrName},
		{fault.Of(fault.ErrArg, strange), api.ErrArg},
		{fault.Of(deflate.ErrDeflate, strange), api.ErrDeflate},
		{fault.Of(bundle.ErrBundle, fault.Of(deflate.ErrDeflate, strange)), api.ErrBundle},
		{fault.Of(info.ErrInfo, fault.Of(names.ErrVersion, strange)), api.ErrInfo},
		{fault.Of(mirrors.ErrMirrors, strange), api.ErrMirrors},
		{fault.Of(sums.ErrSums, fault.Of(names.ErrName, strange)), api.ErrSums},
		{fault.Of(sums.ErrNoSum, nil), api.ErrNoSum},
		{fault.Of(walk.ErrSum, fault.Of(bundle.ErrBundle, strange)), api.ErrSum},
		{fault.Of(walk.ErrOff, nil), api.ErrOff},
		{fault.Of(walk.ErrDirect, nil), api.ErrDirect},
		{fault.Of(walk.ErrNotFound, strange), api.ErrNotFound},
		{fault.Of(walk.ErrFailed, fault.Of(info.ErrInfo, strange)), api.ErrFailed},
		{fault.Of(client.ErrNone, fault.Of(walk.ErrSum, strange)), api.ErrNone},
		{strange, api.ErrArg},
	} {
		if got := number(c.err); got != c.want {
			t.Errorf("number(%v) = %d, want %d", c.err, got, c.want)
		}
	}
}
