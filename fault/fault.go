// Package fault is no layer: it is what the layers share to raise an error by
// a panic and to take it up again at the exported function.
package fault

import "manciple/api"

// placed is an error that tells where in a list or a text it lies.
type placed struct {
	place int
	err   api.Errno
}

// Require panics with err unless the condition holds.
func Require(holds bool, err api.Errno) {
	if !holds {
		panic(err)
	}
}

// RequireAt panics with err and its place unless the condition holds.
func RequireAt(holds bool, place int, err api.Errno) {
	if !holds {
		panic(placed{place, err})
	}
}

// Element returns element i of l, and panics with ErrArg if l has none.
func Element[E any](l []E, i int) E {
	Require(0 <= i && i < len(l), api.ErrArg)
	return l[i]
}

// Raised returns the error with which a panic was raised, OK if there was no
// panic. By P1 no panic leaves a package, and what was not read to its end must
// not pass for good: any other panic is answered by the error other.
func Raised(recovered any, other api.Errno) api.Errno {
	_, err := RaisedAt(recovered, other)
	return err
}

// RaisedAt returns what Raised does and the place that the panic named, 0 if it
// named none.
func RaisedAt(recovered any, other api.Errno) (place int, err api.Errno) {
	switch raised := recovered.(type) {
	case nil:
		return 0, api.OK
	case api.Errno:
		return 0, raised
	case placed:
		return raised.place, raised.err
	}
	return 0, other
}
