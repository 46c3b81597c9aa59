// Package num is layer 1: see shared/doc/01-num.md.
package num

import (
	"cmp"
	"math"
	"math/bits"
	"strconv"
	"strings"

	"bridleway/api"
)

const (
	nanBits = 0x7FF8000000000001
	nanKey  = math.MaxUint64
	highest = 1 << 63

	// A float's M has at most so many bits: a number below 2 to that power is a float exactly.
	wholeBits = 53
)

// Order (A1).

// Canon is the float itself; all nans are one.
func Canon(f float64) float64 {
	if math.IsNaN(f) {
		return math.Float64frombits(nanBits)
	}
	return f
}

// Order is -1, 0 or 1: a is ahead of b, the same, or behind it.
func Order(a, b float64) int {
	return cmp.Compare(Key(a), Key(b))
}

// Key is a number for each float; they are in the order of the floats.
func Key(f float64) uint64 {
	if math.IsNaN(f) {
		return nanKey
	}
	b := math.Float64bits(f)
	if b&highest != 0 {
		return ^b
	}
	return b | highest
}

// OfKey is the float whose Key it is.
func OfKey(k uint64) (float64, bool) {
	b := ^k
	if k&highest != 0 {
		b = k &^ highest
	}
	f := Canon(math.Float64frombits(b))
	// The bits of other nans are turned round to keys too, but are no float's.
	if Key(f) != k {
		return 0, false
	}
	return f, true
}

// Text (A2).

// Text is a float, written exactly.
func Text(f float64) string {
	switch {
	case math.IsNaN(f):
		return "nan"
	case math.IsInf(f, 1):
		return "inf"
	case math.IsInf(f, -1):
		return "-inf"
	}
	sign := ""
	if math.Signbit(f) {
		sign = "-"
	}
	m, e := parts(math.Abs(f))
	return sign + strconv.FormatUint(m, 10) + "p" + strconv.Itoa(e)
}

// parts is the odd M, and the E, of a number that is not below 0; of 0 both are 0.
func parts(f float64) (m uint64, e int) {
	if f == 0 {
		return 0, 0
	}
	fraction, power := math.Frexp(f)
	m = uint64(math.Ldexp(fraction, wholeBits))
	even := bits.TrailingZeros64(m)
	return m >> even, power - wholeBits + even
}

// Parse is the float whose Text it is.
func Parse(s string) (float64, api.Errno) {
	f, ok := read(s)
	// One float has one text: zeros ahead, an even M, and what a float64 rounds are refused here.
	if !ok || Text(f) != s {
		return 0, api.ErrSyntax
	}
	return f, api.OK
}

// read is a float that is near to what s says, if s says any.
func read(s string) (float64, bool) {
	switch s {
	case "nan":
		return Canon(math.NaN()), true
	case "inf":
		return math.Inf(1), true
	case "-inf":
		return math.Inf(-1), true
	}
	rest, negative := strings.CutPrefix(s, "-")
	whole, power, _ := strings.Cut(rest, "p")
	m, err := strconv.ParseUint(whole, 10, wholeBits)
	if err != nil {
		return 0, false
	}
	e, err := strconv.ParseInt(power, 10, 16)
	if err != nil {
		return 0, false
	}
	f := math.Ldexp(float64(m), int(e))
	if negative {
		f = math.Copysign(f, -1)
	}
	return f, true
}

// Against holds a whole number against a float (A3).
func Against(n int64, f float64) (int, bool) {
	switch {
	case math.IsNaN(f):
		return 0, false
	case f >= 1<<63:
		return -1, true
	case f < -1<<63:
		return 1, true
	}
	// Not n is made a float, which might round it, but f's whole part an int64, which has room for it.
	whole := math.Trunc(f)
	if c := cmp.Compare(n, int64(whole)); c != 0 {
		return c, true
	}
	return cmp.Compare(whole, f), true
}
