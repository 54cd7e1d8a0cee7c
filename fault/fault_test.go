package fault_test

import (
	"errors"
	"math"
	"testing"

	"manciple/api"
	"manciple/fault"
)

func TestRaisedLetsNoPanicPassForOK(t *testing.T) {
	for _, c := range []struct {
		recovered any
		want      api.Errno
	}{
		{nil, api.OK},
		{api.ErrLong, api.ErrLong},
		{api.ErrVer, api.ErrVer},
		{"some other panic", api.ErrForm},
		{errors.New("another"), api.ErrForm},
		{4, api.ErrForm},
	} {
		if err := fault.Raised(c.recovered, api.ErrForm); err != c.want {
			t.Errorf("Raised(%v): %v; want %v", c.recovered, err, c.want)
		}
		if place, err := fault.RaisedAt(c.recovered, api.ErrForm); place != 0 || err != c.want {
			t.Errorf("RaisedAt(%v): %d, %v; want 0, %v", c.recovered, place, err, c.want)
		}
	}
}

func TestRequire(t *testing.T) {
	for _, c := range []struct {
		run   func()
		place int
		err   api.Errno
	}{
		{func() { fault.Require(true, api.ErrLong) }, 0, api.OK},
		{func() { fault.Require(false, api.ErrLong) }, 0, api.ErrLong},
		{func() { fault.RequireAt(true, 7, api.ErrLong) }, 0, api.OK},
		{func() { fault.RequireAt(false, 0, api.ErrLong) }, 0, api.ErrLong},
		{func() { fault.RequireAt(false, 7, api.ErrVer) }, 7, api.ErrVer},
	} {
		recovered := recoveredFrom(c.run)
		if err := fault.Raised(recovered, api.ErrForm); err != c.err {
			t.Errorf("Raised: %v; want %v", err, c.err)
		}
		if place, err := fault.RaisedAt(recovered, api.ErrForm); place != c.place || err != c.err {
			t.Errorf("RaisedAt: %d, %v; want %d, %v", place, err, c.place, c.err)
		}
	}
}

func TestElement(t *testing.T) {
	l := []string{"a", "b", "c"}
	for i, want := range l {
		if got := fault.Element(l, i); got != want {
			t.Errorf("Element %d: %q; want %q", i, got, want)
		}
	}
	for _, i := range []int{-1, 3, 4, math.MaxInt, math.MinInt} {
		recovered := recoveredFrom(func() { fault.Element(l, i) })
		if err := fault.Raised(recovered, api.ErrForm); err != api.ErrArg {
			t.Errorf("Element %d: %v; want %v", i, err, api.ErrArg)
		}
	}
	recovered := recoveredFrom(func() { fault.Element(l[:2], 2) })
	if err := fault.Raised(recovered, api.ErrForm); err != api.ErrArg {
		t.Errorf("Element beyond the end of a list with room: %v; want %v", err, api.ErrArg)
	}
}

func recoveredFrom(run func()) (recovered any) {
	defer func() { recovered = recover() }()
	run()
	return nil
}
