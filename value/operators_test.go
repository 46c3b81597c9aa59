package value

import (
	"bytes"
	"math"
	"math/big"
	"testing"

	"bridleway/api"
)

// holdsOf is which operators hold of a value that is less, the same, more; and of a nan.
var holdsOf = map[string][4]bool{
	"=":  {false, true, false, false},
	"<>": {true, false, true, true},
	"<":  {true, false, false, false},
	"<=": {true, true, false, false},
	">":  {false, false, true, false},
	">=": {false, true, true, false},
}

var reckonOps = []string{"+", "-", "*"}

var noOps = []string{"", " ", "==", "!=", "=<", "=>", "<=>", "><", "<<", "===", "= ", " =", "=\x00", "and", "or", "not", "isnull", "/", "%", "**", "++", "--", "+-", "+ ", " -", "\x00", "\xff", "\u2264", "\u00d7"}

type asked struct {
	op   string
	a, b api.Value
	want api.Value
	e    api.Errno
}

func checkAsked(t *testing.T, name string, call func(string, api.Value, api.Value) (api.Value, api.Errno), l []asked) {
	t.Helper()
	for _, x := range l {
		if v, e := call(x.op, x.a, x.b); !exactly(v, x.want) || e != x.e {
			t.Errorf("%s %q %#v %#v: %#v %v, not %#v %v", name, x.op, x.a, x.b, v, e, x.want, x.e)
		}
	}
}

func intOf(n int64) api.Value { return api.Value{Kind: api.Int, N: n} }

func floatOf(f float64) api.Value { return api.Value{Kind: api.Float, F: f} }

func textOf(s string) api.Value { return api.Value{Kind: api.Text, S: s} }

var (
	no  = api.Value{Kind: api.Bool}
	yes = api.Value{Kind: api.Bool, N: 1}
)

func TestTest(t *testing.T) {
	var null api.Value
	checkAsked(t, "Test", Test, []asked{
		{"=", intOf(1<<53 + 1), floatOf(1 << 53), no, api.OK}, {">", intOf(1<<53 + 1), floatOf(1 << 53), yes, api.OK}, {"<", floatOf(1 << 53), intOf(1<<53 + 1), yes, api.OK},
		{"=", intOf(1), floatOf(1), yes, api.OK}, {"<>", floatOf(1), intOf(1), no, api.OK}, {"<", intOf(1), floatOf(1.5), yes, api.OK}, {">=", floatOf(1.5), intOf(2), no, api.OK},
		{"=", floatOf(0), floatOf(negativeZero), yes, api.OK}, {"<", floatOf(negativeZero), floatOf(0), no, api.OK}, {"<=", floatOf(0), floatOf(negativeZero), yes, api.OK}, {"=", intOf(0), floatOf(negativeZero), yes, api.OK},
		{"<", intOf(math.MaxInt64), floatOf(1 << 63), yes, api.OK}, {"=", intOf(math.MinInt64), floatOf(-1 << 63), yes, api.OK},
		{"=", nan(), nan(), no, api.OK}, {"<>", nan(), nan(), yes, api.OK}, {"<>", intOf(0), nan(), yes, api.OK}, {">=", nan(), intOf(0), no, api.OK}, {">", nan(), intOf(0), no, api.OK}, {"<", intOf(0), nan(), no, api.OK}, {">", intOf(0), nan(), no, api.OK}, {"<=", floatOf(math.Inf(1)), nan(), no, api.OK},
		{"<", no, yes, yes, api.OK}, {"=", yes, yes, yes, api.OK}, {">", no, yes, no, api.OK},
		{"<", textOf("a"), textOf("ab"), yes, api.OK}, {"<", textOf("\x7f"), textOf("\x80"), yes, api.OK}, {"<", textOf("10"), textOf("9"), yes, api.OK}, {"=", textOf("a"), textOf("A"), no, api.OK}, {">", textOf("\x00"), textOf(""), yes, api.OK},
		{"=", null, null, null, api.OK}, {"<>", null, null, null, api.OK}, {"<", null, textOf("x"), null, api.OK}, {">=", nan(), null, null, api.OK},
		{"=", textOf("1"), intOf(1), null, api.ErrType}, {"<>", yes, intOf(1), null, api.ErrType}, {"=", floatOf(1), yes, null, api.ErrType}, {"<", textOf("nan"), nan(), null, api.ErrType}, {"=", no, textOf(""), null, api.ErrType},
	})
}

// numberOf is an Int or a Float exactly, but for nans.
func numberOf(v api.Value) *big.Float {
	if v.Kind == api.Int {
		return new(big.Float).SetInt64(v.N)
	}
	return big.NewFloat(v.F)
}

// column is where holdsOf has how a is to b, of one kind or both numbers.
func column(a, b api.Value) int {
	switch a.Kind {
	case api.Bool:
		return 1 + int(a.N-b.N)
	case api.Text:
		return 1 + bytes.Compare([]byte(a.S), []byte(b.S))
	}
	if math.IsNaN(a.F) || math.IsNaN(b.F) {
		return 3
	}
	return 1 + numberOf(a).Cmp(numberOf(b))
}

func numeric(v api.Value) bool { return v.Kind == api.Int || v.Kind == api.Float }

func TestTestOfAllPairs(t *testing.T) {
	var l []asked
	for op, holds := range holdsOf {
		for _, a := range values() {
			for _, b := range values() {
				x := asked{op: op, a: a, b: b}
				switch {
				case a.Kind == api.Null || b.Kind == api.Null:
				case a.Kind != b.Kind && !(numeric(a) && numeric(b)):
					x.e = api.ErrType
				case holds[column(a, b)]:
					x.want = yes
				default:
					x.want = no
				}
				l = append(l, x)
			}
		}
	}
	checkAsked(t, "Test", Test, l)
}

// wrongAsked is calls whose operator there is not, or that are handed a value that is not right.
func wrongAsked(ops, wrongOps []string) []asked {
	var l []asked
	some := []api.Value{{}, yes, intOf(1), floatOf(1), nan(), textOf("a")}
	for _, op := range wrongOps {
		for _, a := range some {
			for _, b := range some {
				l = append(l, asked{op: op, a: a, b: b, e: api.ErrArg})
			}
		}
	}
	for _, op := range ops {
		for _, w := range wrongs() {
			l = append(l, asked{op: op, a: w, b: w, e: api.ErrArg})
			for _, b := range some {
				l = append(l, asked{op: op, a: w, b: b, e: api.ErrArg}, asked{op: op, a: b, b: w, e: api.ErrArg})
			}
		}
	}
	return l
}

func TestTestOfWrong(t *testing.T) {
	var ops []string
	for op := range holdsOf {
		ops = append(ops, op)
	}
	checkAsked(t, "Test", Test, wrongAsked(ops, append(reckonOps, noOps...)))
}

func TestReckon(t *testing.T) {
	var null api.Value
	inf, minusInf := floatOf(math.Inf(1)), floatOf(math.Inf(-1))
	checkAsked(t, "Reckon", Reckon, []asked{
		{"+", intOf(2), intOf(3), intOf(5), api.OK}, {"-", intOf(2), intOf(3), intOf(-1), api.OK}, {"*", intOf(-2), intOf(3), intOf(-6), api.OK},
		{"+", intOf(math.MaxInt64), intOf(1), null, api.ErrOverflow}, {"*", intOf(math.MinInt64), intOf(-1), null, api.ErrOverflow}, {"-", intOf(0), intOf(math.MinInt64), null, api.ErrOverflow}, {"-", intOf(-1), intOf(math.MinInt64), intOf(math.MaxInt64), api.OK},
		{"+", intOf(1), floatOf(0.5), floatOf(1.5), api.OK}, {"-", floatOf(0.5), intOf(1), floatOf(-0.5), api.OK}, {"*", floatOf(1), floatOf(1), floatOf(1), api.OK}, {"+", floatOf(1), intOf(1), floatOf(2), api.OK},
		{"+", floatOf(0), floatOf(negativeZero), floatOf(0), api.OK}, {"+", floatOf(negativeZero), floatOf(negativeZero), floatOf(negativeZero), api.OK}, {"-", floatOf(negativeZero), floatOf(0), floatOf(negativeZero), api.OK}, {"-", floatOf(1.5), floatOf(1.5), floatOf(0), api.OK},
		{"+", intOf(0), floatOf(negativeZero), floatOf(0), api.OK}, {"*", intOf(0), floatOf(-1), floatOf(negativeZero), api.OK}, {"*", floatOf(0), intOf(-1), floatOf(negativeZero), api.OK}, {"*", floatOf(negativeZero), intOf(-1), floatOf(0), api.OK},
		{"+", intOf(1<<53 + 1), floatOf(0), floatOf(1 << 53), api.OK}, {"+", intOf(1<<53 + 3), floatOf(0), floatOf(1<<53 + 4), api.OK}, {"+", intOf(1<<53 + 1), floatOf(1), floatOf(1 << 53), api.OK}, {"*", floatOf(1), intOf(math.MaxInt64), floatOf(1 << 63), api.OK}, {"-", intOf(math.MaxInt64), floatOf(1 << 63), floatOf(0), api.OK},
		{"-", inf, inf, nan(), api.OK}, {"+", inf, minusInf, nan(), api.OK}, {"*", inf, intOf(0), nan(), api.OK}, {"*", floatOf(negativeZero), minusInf, nan(), api.OK}, {"+", inf, intOf(-1), inf, api.OK}, {"*", minusInf, intOf(-2), inf, api.OK}, {"-", intOf(1), inf, minusInf, api.OK},
		{"+", floatOf(math.MaxFloat64), floatOf(math.MaxFloat64), inf, api.OK}, {"*", floatOf(-math.MaxFloat64), intOf(2), minusInf, api.OK}, {"*", floatOf(math.SmallestNonzeroFloat64), floatOf(0.5), floatOf(0), api.OK},
		{"+", nan(), intOf(1), nan(), api.OK}, {"-", intOf(1), nan(), nan(), api.OK}, {"*", nan(), nan(), nan(), api.OK}, {"*", floatOf(0), nan(), nan(), api.OK},
		{"+", null, null, null, api.OK}, {"-", null, intOf(1), null, api.OK}, {"*", floatOf(1), null, null, api.OK}, {"+", null, textOf("a"), null, api.OK}, {"+", yes, null, null, api.OK},
		{"+", textOf("a"), textOf("b"), null, api.ErrType}, {"+", intOf(1), textOf("1"), null, api.ErrType}, {"*", yes, intOf(1), null, api.ErrType}, {"-", floatOf(1), no, null, api.ErrType}, {"-", yes, yes, null, api.ErrType}, {"*", textOf(""), nan(), null, api.ErrType},
	})
}

// manyInts is ints, and others of all sizes, the same ones each time.
func manyInts() []int64 {
	l := append([]int64{}, ints...)
	for i := range uint64(200) {
		x := (i + 1) * 0x9E3779B97F4A7C15
		l = append(l, int64(x)>>(i%64))
	}
	return l
}

func exactInt(op string, a, b int64) *big.Int {
	x, y := big.NewInt(a), big.NewInt(b)
	switch op {
	case "+":
		return x.Add(x, y)
	case "-":
		return x.Sub(x, y)
	}
	return x.Mul(x, y)
}

func TestReckonOfInts(t *testing.T) {
	var l []asked
	for _, op := range reckonOps {
		for _, a := range manyInts() {
			for _, b := range manyInts() {
				x := asked{op: op, a: intOf(a), b: intOf(b)}
				if want := exactInt(op, a, b); want.IsInt64() {
					x.want = intOf(want.Int64())
				} else {
					x.e = api.ErrOverflow
				}
				l = append(l, x)
			}
		}
	}
	checkAsked(t, "Reckon", Reckon, l)
}

func exactRat(op string, a, b float64) *big.Rat {
	x, y := new(big.Rat).SetFloat64(a), new(big.Rat).SetFloat64(b)
	switch op {
	case "+":
		return x.Add(x, y)
	case "-":
		return x.Sub(x, y)
	}
	return x.Mul(x, y)
}

// rounded is a number as float64, by a way of its own.
func rounded(v api.Value) float64 {
	if v.Kind == api.Int {
		f, _ := new(big.Rat).SetInt64(v.N).Float64()
		return f
	}
	return v.F
}

func finite(l []api.Value) []api.Value {
	var out []api.Value
	for _, v := range l {
		if numeric(v) && !math.IsInf(v.F, 0) && !math.IsNaN(v.F) {
			out = append(out, v)
		}
	}
	return out
}

func TestReckonOfFloatsIsRoundedOnce(t *testing.T) {
	l := finite(values())
	for _, op := range reckonOps {
		for _, a := range l {
			for _, b := range l {
				if a.Kind == api.Int && b.Kind == api.Int {
					continue
				}
				want, _ := exactRat(op, rounded(a), rounded(b)).Float64()
				got, e := Reckon(op, a, b)
				if !Right(got) || got.Kind != api.Float || got.F != want || e != api.OK {
					t.Errorf("%s %#v %#v: %#v %v, not %x", op, a, b, got, e, want)
				}
			}
		}
	}
}

func TestReckonOfOtherKinds(t *testing.T) {
	for _, op := range reckonOps {
		for _, a := range values() {
			for _, b := range values() {
				want := api.OK
				if a.Kind != api.Null && b.Kind != api.Null {
					want = api.ErrType
				}
				if numeric(a) && numeric(b) {
					continue
				}
				if got, e := Reckon(op, a, b); !isNull(got) || e != want {
					t.Errorf("%s %#v %#v: %#v %v", op, a, b, got, e)
				}
			}
		}
	}
}

func TestReckonOfWrong(t *testing.T) {
	checkAsked(t, "Reckon", Reckon, wrongAsked(reckonOps, append([]string{"=", "<>", "<", "<=", ">", ">="}, noOps...)))
}
