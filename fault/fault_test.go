package fault_test

import (
	"errors"
	"testing"

	"manciple/api"
	"manciple/fault"
)

func TestRaisedLetsNoPanicPassForOK(t *testing.T) {
	for _, c := range []struct {
		recovered any
		want      api.Errno
	}{
		{nil, api.OK},
		{api.ErrLong, api.ErrLong},
		{api.ErrVer, api.ErrVer},
		{"some other panic", api.ErrForm},
		{errors.New("another"), api.ErrForm},
		{4, api.ErrForm},
	} {
		if err := fault.Raised(c.recovered, api.ErrForm); err != c.want {
			t.Errorf("Raised(%v): %v; want %v", c.recovered, err, c.want)
		}
	}
}

func TestRequire(t *testing.T) {
	if err := raisedBy(true); err != api.OK {
		t.Errorf("Require raised %v for a condition that holds", err)
	}
	if err := raisedBy(false); err != api.ErrLong {
		t.Errorf("Require raised %v; want %v", err, api.ErrLong)
	}
}

func raisedBy(holds bool) (err api.Errno) {
	defer func() { err = fault.Raised(recover(), api.ErrForm) }()
	fault.Require(holds, api.ErrLong)
	return api.OK
}
