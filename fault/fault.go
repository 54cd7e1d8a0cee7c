// Package fault is no layer: it is what the layers share to raise an error by
// a panic and to take it up again at the exported function.
package fault

import "manciple/api"

// Require panics with err unless the condition holds.
func Require(holds bool, err api.Errno) {
	if !holds {
		panic(err)
	}
}

// Raised returns the error with which a panic was raised, OK if there was no
// panic. By P1 no panic leaves a package, and what was not read to its end must
// not pass for good: any other panic is answered by the error other.
func Raised(recovered any, other api.Errno) api.Errno {
	switch err := recovered.(type) {
	case nil:
		return api.OK
	case api.Errno:
		return err
	}
	return other
}
