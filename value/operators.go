package value

import (
	"cmp"
	"math/bits"

	"bridleway/api"
	"bridleway/num"
)

// How one value is to another one.
const (
	below = -1
	equal = 0
	above = 1
	apart = 2 // of a nan: none of the others, nor turned round
)

// comparison is an operator that tells whether something holds.
type comparison struct {
	holds func(order int) bool
}

func comparisons() map[string]comparison {
	return map[string]comparison{
		"=":  {func(order int) bool { return order == equal }},
		"<>": {func(order int) bool { return order != equal }},
		"<":  {func(order int) bool { return order == below }},
		"<=": {func(order int) bool { return order == below || order == equal }},
		">":  {func(order int) bool { return order == above }},
		">=": {func(order int) bool { return order == above || order == equal }},
	}
}

// Test tells whether something holds (B2).
func Test(op string, a, b api.Value) (api.Value, api.Errno) {
	c, known := comparisons()[op]
	switch {
	case !known || !Right(a) || !Right(b):
		return api.Value{}, api.ErrArg
	case a.Kind == api.Null || b.Kind == api.Null:
		return api.Value{}, api.OK
	case a.Kind != b.Kind && !(isNumber(a) && isNumber(b)):
		return api.Value{}, api.ErrType
	}
	return truth(c.holds(order(a, b))), api.OK
}

func isNumber(v api.Value) bool { return v.Kind == api.Int || v.Kind == api.Float }

// order is how a is to b, of which both are of one kind, or numbers.
func order(a, b api.Value) int {
	switch {
	case a.Kind == api.Text:
		return cmp.Compare(a.S, b.S)
	case a.Kind == api.Float && b.Kind == api.Float:
		return floatOrder(a.F, b.F)
	case b.Kind == api.Float:
		return mixedOrder(a.N, b.F)
	case a.Kind == api.Float:
		return -mixedOrder(b.N, a.F)
	}
	return cmp.Compare(a.N, b.N)
}

// floatOrder is not that of num, in which -0 is ahead of +0, and nans are the same.
func floatOrder(a, b float64) int {
	switch {
	case a < b:
		return below
	case a == b:
		return equal
	case a > b:
		return above
	}
	return apart
}

func mixedOrder(n int64, f float64) int {
	c, ok := num.Against(n, f)
	if !ok {
		return apart
	}
	return c
}

// operation is an operator that reckons; ofInts tells whether the number has room.
type operation struct {
	ofInts   func(a, b int64) (int64, bool)
	ofFloats func(a, b float64) float64
}

func operations() map[string]operation {
	return map[string]operation{
		"+": {
			ofInts: func(a, b int64) (int64, bool) {
				c := a + b
				return c, (c > a) == (b > 0)
			},
			ofFloats: func(a, b float64) float64 { return a + b },
		},
		"-": {
			ofInts: func(a, b int64) (int64, bool) {
				c := a - b
				return c, (c < a) == (b > 0)
			},
			ofFloats: func(a, b float64) float64 { return a - b },
		},
		"*": {
			ofInts:   times,
			ofFloats: func(a, b float64) float64 { return a * b },
		},
	}
}

// times goes by sizes: there is one more number below 0 than above, whose size an int64 has no room for.
func times(a, b int64) (int64, bool) {
	high, low := bits.Mul64(size(a), size(b))
	if (a < 0) != (b < 0) {
		return int64(-low), high == 0 && low <= 1<<63
	}
	return int64(low), high == 0 && low < 1<<63
}

func size(n int64) uint64 {
	if n < 0 {
		return -uint64(n)
	}
	return uint64(n)
}

// Reckon reckons (B3).
func Reckon(op string, a, b api.Value) (api.Value, api.Errno) {
	o, known := operations()[op]
	switch {
	case !known || !Right(a) || !Right(b):
		return api.Value{}, api.ErrArg
	case a.Kind == api.Null || b.Kind == api.Null:
		return api.Value{}, api.OK
	case !isNumber(a) || !isNumber(b):
		return api.Value{}, api.ErrType
	case a.Kind == api.Float || b.Kind == api.Float:
		return float(o.ofFloats(asFloat(a), asFloat(b))), api.OK
	}
	n, room := o.ofInts(a.N, b.N)
	if !room {
		return api.Value{}, api.ErrOverflow
	}
	return whole(n), api.OK
}

func asFloat(v api.Value) float64 {
	if v.Kind == api.Int {
		return float64(v.N)
	}
	return v.F
}
