package value

import (
	"math"
	"testing"

	"bridleway/api"
)

var negativeZero = math.Copysign(0, -1)

// otherNans is of both signs, quiet and signalling; none of them is Canon.
var otherNans = []uint64{0x7FF0000000000001, 0x7FF8000000000000, 0x7FF8000000000002, 0x7FFFFFFFFFFFFFFF, 0xFFF0000000000001, 0xFFF8000000000001, 0xFFFFFFFFFFFFFFFF}

var ints = []int64{
	math.MinInt64, math.MinInt64 + 1, -1<<62 - 1, -1 << 62, -1<<53 - 1, -1 << 53, -1<<32 - 1, -1 << 32, -1 << 31, -3, -2, -1,
	0, 1, 2, 3, 10, 1 << 31, 3037000499, 3037000500, 1 << 32, 1<<32 + 1, 1 << 53, 1<<53 + 1, 1<<53 + 2, 1<<53 + 3, 1 << 62, 1<<62 + 1, math.MaxInt64 - 1, math.MaxInt64,
}

// floats is rising, but for nans.
var floats = []float64{
	math.Inf(-1), -math.MaxFloat64, -1<<63 - 2048, -1 << 63, -1<<63 + 1024, -1<<53 - 2, -1 << 53, -2.5, -2, -1.5, -1, -0.1, -0x1p-1022, -math.SmallestNonzeroFloat64, negativeZero,
	0, math.SmallestNonzeroFloat64, 0x1p-1022, 0.1, 0.5, 1, 1.5, 2, 3, 10, 1 << 53, 1<<53 + 2, 1<<53 + 4, 1<<63 - 1024, 1 << 63, math.MaxFloat64, math.Inf(1),
}

var strs = []string{
	"", "\x00", "\x00\x00", "\x00a", "\n", "\r", " ", "'", "''", "-", "0", "1", "10", "2", "A", "\\", "\\n", "a", "aa", "ab", "b", "it's", "null", "true", "\x7f", "\x80", "\u00e9", "\u2028", "\xff", "\xff\x00",
}

func nan() api.Value { return api.Value{Kind: api.Float, F: math.Float64frombits(0x7FF8000000000001)} }

// values is right ones, rising.
func values() []api.Value {
	l := []api.Value{{}, {Kind: api.Bool}, {Kind: api.Bool, N: 1}}
	for _, n := range ints {
		l = append(l, api.Value{Kind: api.Int, N: n})
	}
	for _, f := range floats {
		l = append(l, api.Value{Kind: api.Float, F: f})
	}
	l = append(l, nan())
	for _, s := range strs {
		l = append(l, api.Value{Kind: api.Text, S: s})
	}
	return l
}

// wrongs is values that are not right.
func wrongs() []api.Value {
	var l []api.Value
	add := func(n int64, f float64, s string, kinds ...int) {
		for _, k := range kinds {
			l = append(l, api.Value{Kind: k, N: n, F: f, S: s})
		}
	}
	for _, k := range []int{math.MinInt64, math.MinInt32, -1, 5, 6, 9, 16, 256, math.MaxInt32, math.MaxInt64} {
		add(0, 0, "", k)
		add(1, 0, "", k)
	}
	for _, n := range []int64{math.MinInt64, -1, 1, 2, 256, 1 << 32, math.MaxInt64} {
		add(n, 0, "", api.Null, api.Float, api.Text)
		add(n, 1, "", api.Float)
		add(n, 0, "a", api.Text)
		if n != 1 {
			add(n, 0, "", api.Bool)
		}
	}
	for _, f := range []float64{negativeZero, math.SmallestNonzeroFloat64, 1, math.Inf(-1), math.NaN()} {
		add(0, f, "", api.Null, api.Bool, api.Int, api.Text)
		add(1, f, "", api.Bool, api.Int)
		add(0, f, "a", api.Text)
	}
	for _, s := range []string{"\x00", "a", "null"} {
		add(0, 0, s, api.Null, api.Bool, api.Int, api.Float)
		add(1, 0, s, api.Bool, api.Int)
		add(0, 1, s, api.Float)
	}
	for _, b := range otherNans {
		add(0, math.Float64frombits(b), "", api.Null, api.Bool, api.Int, api.Float, api.Text)
	}
	return l
}

// exactly tells -0 from +0, and one nan from another one.
func exactly(a, b api.Value) bool {
	f, g := math.Float64bits(a.F), math.Float64bits(b.F)
	a.F, b.F = 0, 0
	return a == b && f == g
}

func isNull(v api.Value) bool { return exactly(v, api.Value{}) }

func TestRight(t *testing.T) {
	for _, v := range values() {
		if !Right(v) {
			t.Errorf("%#v is right", v)
		}
	}
	for _, v := range wrongs() {
		if Right(v) {
			t.Errorf("%#v (%x) is not right", v, math.Float64bits(v.F))
		}
	}
}

// checkRising looks at a list whose values are each ahead of the next one.
func checkRising(t *testing.T, l []api.Value) {
	t.Helper()
	for i, a := range l {
		for k, b := range l {
			if got := Same(a, b); got != (i == k) {
				t.Errorf("same %#v %#v: %v", a, b, got)
			}
			if got := Less(a, b); got != (i < k) {
				t.Errorf("less %#v %#v: %v", a, b, got)
			}
		}
	}
}

func TestSameAndLess(t *testing.T) {
	checkRising(t, values())
}

func TestSameAndLessGoByAllFields(t *testing.T) {
	var l []api.Value
	for _, k := range []int{math.MinInt64, -1, api.Null, api.Bool, api.Int, api.Float, api.Text, 5, math.MaxInt64} {
		for _, n := range []int64{math.MinInt64, 0, math.MaxInt64} {
			for _, f := range []float64{math.Inf(-1), negativeZero, 0, 1, math.NaN()} {
				for _, s := range []string{"", "a", "\xff"} {
					l = append(l, api.Value{Kind: k, N: n, F: f, S: s})
				}
			}
		}
	}
	checkRising(t, l)
}

func TestAllNansAreTheSame(t *testing.T) {
	for _, b := range otherNans {
		other := api.Value{Kind: api.Float, F: math.Float64frombits(b)}
		if !Same(other, nan()) || !Same(nan(), other) || !Same(other, other) {
			t.Errorf("%x is the nan", b)
		}
		if Less(other, nan()) || Less(nan(), other) || Less(other, other) {
			t.Errorf("%x is the nan, not less", b)
		}
		if inf := (api.Value{Kind: api.Float, F: math.Inf(1)}); !Less(inf, other) || Less(other, inf) {
			t.Errorf("%x is behind inf", b)
		}
	}
}
