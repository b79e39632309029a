package satchel

import (
	"errors"
	"testing"

	"satchel/api"
	"satchel/bundle"
	"satchel/deflate"
	"satchel/fault"
	"satchel/info"
	"satchel/names"
)

func TestNumber(t *testing.T) {
	strange := errors.New("strange")
	for _, c := range []struct {
		err  error
		want api.Errno
	}{
		{nil, api.OK},
		{names.ErrName, api.ErrName},
		{fault.Of(names.ErrName, nil), api.ErrName},
		{fault.Of(names.ErrName, strange), api.ErrName},
		{fault.Of(names.ErrVersion, strange), api.ErrVersion},
		{fault.Of(names.ErrVersion, fault.Of(names.ErrName, strange)), api.ErrVersion},
		{fault.Of(names.ErrName, fault.Of(names.ErrVersion, strange)), api.ErrName},
		{fault.Of(fault.ErrArg, strange), api.ErrArg},
		{fault.Of(deflate.ErrDeflate, strange), api.ErrDeflate},
		{fault.Of(bundle.ErrBundle, fault.Of(deflate.ErrDeflate, strange)), api.ErrBundle},
		{fault.Of(info.ErrInfo, fault.Of(names.ErrVersion, strange)), api.ErrInfo},
		{strange, api.ErrArg},
	} {
		if got := number(c.err); got != c.want {
			t.Errorf("number(%v) = %d, want %d", c.err, got, c.want)
		}
	}
}
