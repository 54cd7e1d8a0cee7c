package weight

import "math"

const signBit uint64 = 1 << 63

// place maps the order of P201 to that of unsigned integers. The bits below the
// sign grow with a number's absolute value, from zero over infinity to NaN.
func place(f float64) uint64 {
	bits := math.Float64bits(f)
	if isNaN(f) {
		bits |= ^signBit // NaNs of one sign differ in these bits and are equal
	}
	if bits&signBit != 0 {
		return ^bits
	}
	return bits | signBit
}

// isNaN asks what holds of a NaN alone: it differs from itself.
func isNaN(f float64) bool { return f != f }
