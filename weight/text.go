package weight

import (
	"math"
	"math/bits"
	"strconv"
	"strings"

	"manciple/api"
	"manciple/fault"
)

// A float64 is less than 1<<maxPower, a multiple of 1<<minPower, and has at
// most maxWidth bits from its first one to its last.
const (
	maxWidth = 53
	minPower = -1074
	maxPower = 1024
)

// product writes a number that is neither 0 nor infinite nor a NaN.
func product(f float64) string {
	fraction, power := math.Frexp(f)
	factor := int64(math.Ldexp(fraction, maxWidth))
	zeros := bits.TrailingZeros64(uint64(factor))
	factor >>= zeros
	power += zeros - maxWidth
	return strconv.FormatInt(factor, 10) + "p" + strconv.Itoa(power)
}

// parse panics with an api.Errno if Text writes no number so.
func parse(s string) float64 {
	switch s {
	case "inf":
		return math.Inf(1)
	case "-inf":
		return math.Inf(-1)
	case "nan":
		return math.NaN()
	case "0":
		return 0
	case "-0":
		return math.Copysign(0, -1)
	}
	return parseProduct(s)
}

func parseProduct(s string) float64 {
	before, after, found := strings.Cut(s, "p")
	fault.Require(found && isDecimal(before) && isDecimal(after) && isOdd(before), api.ErrForm)
	factor, power := number(before), number(after)
	fault.Require(-1<<maxWidth < factor && factor < 1<<maxWidth, api.ErrWeight)
	width := int64(bits.Len64(uint64(max(factor, -factor))))
	fault.Require(minPower <= power && power <= maxPower-width, api.ErrWeight)
	return math.Ldexp(float64(factor), int(power))
}

func isDecimal(s string) bool {
	digits := strings.TrimPrefix(s, "-")
	if digits == "" || digits[0] == '0' {
		return s == "0"
	}
	return strings.TrimLeft(digits, "0123456789") == ""
}

func isOdd(decimal string) bool {
	return (decimal[len(decimal)-1]-'0')%2 == 1
}

// number reads a decimal number. One that int64 does not hold is read as the
// end of int64 on its side, which is beyond every limit as well.
func number(decimal string) int64 {
	n, _ := strconv.ParseInt(decimal, 10, 64)
	return n
}
