package expr

import (
	"math"
	"math/rand"
	"slices"
	"testing"

	"bridleway/api"
)

var (
	twos = []string{"=", "<>", "<", "<=", ">", ">=", "and", "or", "+", "-", "*"}
	ones = []string{"not", "isnull"}

	// noOps is names that no operator has.
	noOps = []string{"", " ", "==", "!=", "=<", "=>", "<=>", "><", "= ", " =", "<> ", "=\x00", "AND", "And", "and ", "xor", "Or", "OR", "NOT", "not ", "!", "isNull", "is null", "ISNULL", "notnull", "/", "%", "**", "++", "neg", "x", "\x00", "\xff", "\u2264", "\u00d7"}

	negativeZero = math.Copysign(0, -1)
)

func ops() []string { return slices.Concat(twos, ones) }

func lit(v api.Value) api.Expr { return api.Expr{Kind: api.ExprLit, Value: v} }

func prop(name string) api.Expr { return api.Expr{Kind: api.ExprProp, Name: name} }

func op(name string, kids ...api.Expr) api.Expr {
	return api.Expr{Kind: api.ExprOp, Name: name, Kids: kids}
}

func whole(n int64) api.Value { return api.Value{Kind: api.Int, N: n} }

func float(f float64) api.Value { return api.Value{Kind: api.Float, F: f} }

func text(s string) api.Value { return api.Value{Kind: api.Text, S: s} }

func boolean(n int64) api.Value { return api.Value{Kind: api.Bool, N: n} }

// nan is the one that is right.
func nan() float64 { return math.Float64frombits(0x7FF8000000000001) }

// rightValues is some of each kind.
func rightValues() []api.Value {
	return []api.Value{
		{}, boolean(0), boolean(1),
		whole(0), whole(1), whole(-1), whole(2), whole(math.MaxInt64), whole(math.MinInt64),
		float(0), float(negativeZero), float(1), float(-2.5), float(math.MaxFloat64), float(math.Inf(1)), float(math.Inf(-1)), float(nan()),
		text(""), text("a"), text("\x00\xff"),
	}
}

// wrongValues is some that are no value.
func wrongValues() []api.Value {
	return []api.Value{
		{Kind: -1}, {Kind: 5}, {Kind: math.MaxInt}, {Kind: math.MinInt},
		{N: 1}, {F: negativeZero}, {F: 1}, {F: nan()}, {S: "a"},
		{Kind: api.Bool, N: 2}, {Kind: api.Bool, N: -1}, {Kind: api.Bool, F: negativeZero}, {Kind: api.Bool, N: 1, S: "a"},
		{Kind: api.Int, F: 1}, {Kind: api.Int, F: negativeZero}, {Kind: api.Int, N: 3, S: "\x00"},
		{Kind: api.Float, N: 1}, {Kind: api.Float, F: 1, S: "a"}, {Kind: api.Float, F: math.Float64frombits(0x7FF8000000000000)}, {Kind: api.Float, F: math.Float64frombits(0xFFF8000000000001)},
		{Kind: api.Text, N: 1}, {Kind: api.Text, S: "a", F: negativeZero}, {Kind: api.Text, S: "a", F: 2},
	}
}

// something is values that an expression without one may not have.
func something() []api.Value {
	return []api.Value{
		{N: 1}, {N: -1}, {N: math.MinInt64}, {S: "a"}, {S: "\x00"}, {S: " "},
		{F: 1}, {F: -1}, {F: math.SmallestNonzeroFloat64}, {F: -math.SmallestNonzeroFloat64}, {F: nan()}, {F: math.Inf(1)},
		{Kind: api.Bool}, {Kind: api.Int}, {Kind: api.Float}, {Kind: api.Text}, {Kind: 5}, {Kind: -1},
		boolean(1), whole(7), text("a"), float(1.5),
	}
}

// nothing is values that count as none.
func nothing() []api.Value { return []api.Value{{}, {F: 0}, {F: negativeZero}} }

// kidsFor is as many right Kids as the operator has places.
func kidsFor(name string) []api.Expr {
	l := []api.Expr{prop("x"), lit(whole(1))}
	if slices.Contains(ones, name) {
		return l[:1]
	}
	return l
}

// nested is n deep, by each of names in turn, with fill where a second Kid is needed.
func nested(n int, names []string, fill api.Expr) api.Expr {
	e := fill
	for i := range n - 1 {
		name := names[i%len(names)]
		switch {
		case slices.Contains(ones, name):
			e = op(name, e)
		case i%3 == 0:
			e = op(name, e, fill)
		default:
			e = op(name, fill, e)
		}
	}
	return e
}

func wantRight(t *testing.T, want bool, l ...api.Expr) {
	t.Helper()
	for _, e := range l {
		if Right(e) != want {
			t.Errorf("Right %#v: %v", e, !want)
		}
	}
}

func TestRightLiterals(t *testing.T) {
	for _, v := range rightValues() {
		e := lit(v)
		wantRight(t, true, e, api.Expr{Kind: api.ExprLit, Value: v, Kids: []api.Expr{}}, op("isnull", e), op("=", e, e))
		named, parted := e, e
		named.Name = "x"
		parted.Kids = []api.Expr{lit(api.Value{})}
		wantRight(t, false, named, parted, op("not", named), op("=", e, parted), op("=", parted, e))
		named.Name = "="
		parted.Kids = []api.Expr{{}}
		wantRight(t, false, named, parted)
	}
	for _, v := range wrongValues() {
		wantRight(t, false, lit(v), op("isnull", lit(v)), op("=", prop("x"), lit(v)), op("=", lit(v), prop("x")))
	}
}

func TestRightProperties(t *testing.T) {
	for _, name := range []string{"x", "a b", " ", "\x00", "\xff", "=", "not", "\u00e9"} {
		for _, v := range nothing() {
			e := api.Expr{Kind: api.ExprProp, Name: name, Value: v}
			wantRight(t, true, e, op("not", e), op("and", e, e))
			e.Kids = []api.Expr{}
			wantRight(t, true, e)
			e.Kids = []api.Expr{prop("x")}
			wantRight(t, false, e)
			e.Kids = []api.Expr{{}}
			wantRight(t, false, e)
		}
		for _, v := range something() {
			e := api.Expr{Kind: api.ExprProp, Name: name, Value: v}
			wantRight(t, false, e, op("not", e), op("and", prop("x"), e), op("and", e, prop("x")))
		}
	}
	wantRight(t, false, prop(""), op("not", prop("")), op("or", prop(""), prop("x")), op("or", prop("x"), prop("")))
}

func TestRightOperators(t *testing.T) {
	for _, name := range ops() {
		places := len(kidsFor(name))
		for count := range 5 {
			e := op(name, slices.Repeat([]api.Expr{prop("x")}, count)...)
			wantRight(t, count == places, e, op("isnull", e))
		}
		wantRight(t, false, api.Expr{Kind: api.ExprOp, Name: name})
		for _, v := range nothing() {
			wantRight(t, true, api.Expr{Kind: api.ExprOp, Name: name, Value: v, Kids: kidsFor(name)})
		}
		for _, v := range something() {
			wantRight(t, false, api.Expr{Kind: api.ExprOp, Name: name, Value: v, Kids: kidsFor(name)})
		}
		for i := range places {
			for _, bad := range []api.Expr{{}, prop(""), lit(api.Value{Kind: 5}), op("no", prop("x")), op("not"), {Kind: api.LabelName, Name: "x"}} {
				e := op(name, kidsFor(name)...)
				e.Kids[i] = bad
				wantRight(t, false, e, op("not", e), op("or", prop("x"), e), op("or", e, prop("x")))
			}
		}
	}
	for _, name := range noOps {
		for count := range 4 {
			e := op(name, slices.Repeat([]api.Expr{prop("x")}, count)...)
			wantRight(t, false, e, op("not", e))
		}
	}
}

func TestRightKinds(t *testing.T) {
	kinds := []int{api.ExprNone, api.LabelName, api.LabelAny, api.LabelNot, api.LabelAnd, api.LabelOr, 9, 10, 255, 256 + api.ExprLit, 1<<32 + api.ExprLit, -1, -api.ExprProp, math.MinInt, math.MaxInt}
	for _, kind := range kinds {
		for _, e := range []api.Expr{{}, lit(whole(1)), prop("x"), op("not", prop("x")), op("=", prop("x"), prop("y"))} {
			e.Kind = kind
			wantRight(t, false, e, op("not", e))
		}
	}
}

func TestDeep(t *testing.T) {
	for _, names := range [][]string{{"not"}, {"isnull"}, {"and"}, {"+", "<"}, ops()} {
		for n := 1; n <= 120; n++ {
			e := nested(n, names, prop("x"))
			if got, want := Depth(e), min(n, 51); got != want {
				t.Errorf("Depth of %v, %d deep: %d", names, n, got)
			}
			wantRight(t, n <= 50, e)
		}
	}
	far := nested(9000, []string{"not", "or"}, prop("x"))
	if d := Depth(far); d != 51 {
		t.Error(d)
	}
	wantRight(t, false, far)
}

// TestDeepest: the deepest part counts, wherever it stands.
func TestDeepest(t *testing.T) {
	for _, n := range []int{1, 2, 7, 48, 49, 50, 51, 400} {
		for _, m := range []int{1, 2, 7, 48, 49, 50, 51, 400} {
			a, b := nested(n, ops(), prop("x")), nested(m, ops(), prop("x"))
			e := op("and", a, b)
			want := min(1+max(n, m), 51)
			if got := Depth(e); got != want {
				t.Error(n, m, got)
			}
			wantRight(t, want <= 50, e)
		}
	}
}

// TestDepthOfAny: Depth is told of whatever has Kids, right or not.
func TestDepthOfAny(t *testing.T) {
	for _, c := range []struct {
		e    api.Expr
		want int
	}{
		{api.Expr{}, 1}, {lit(api.Value{Kind: 9}), 1}, {prop(""), 1}, {op("no"), 1}, {api.Expr{Kids: []api.Expr{}}, 1}, {api.Expr{Kind: -1}, 1},
		{api.Expr{Kids: []api.Expr{{}}}, 2},
		{api.Expr{Kind: api.ExprLit, Kids: []api.Expr{{}, {Kids: []api.Expr{{}}}, {}}}, 3},
		{api.Expr{Kind: api.LabelNot, Kids: []api.Expr{{Kind: api.LabelName, Name: "x"}}}, 2},
		{op("no", prop(""), op("not"), op("not", op("not", prop("x")), prop("x")), prop("x")), 4},
	} {
		if got := Depth(c.e); got != c.want {
			t.Errorf("Depth %#v: %d", c.e, got)
		}
	}
	wide := api.Expr{Kids: make([]api.Expr, 100000)}
	if d := Depth(wide); d != 2 {
		t.Error(d)
	}
	wide.Kids[99999] = nested(50, ops(), prop("x"))
	if d := Depth(wide); d != 51 {
		t.Error(d)
	}
	wantRight(t, false, wide)
}

// TestWithoutEnd: what has itself among its Kids is too deep, and is known to be so at once.
func TestWithoutEnd(t *testing.T) {
	kids := make([]api.Expr, 2)
	e := api.Expr{Kind: api.ExprOp, Name: "and", Kids: kids}
	kids[0], kids[1] = e, e
	if d := Depth(e); d != 51 || Right(e) {
		t.Error(d)
	}
	if v, err := Eval(e, nil); v != (api.Value{}) || err != api.ErrArg {
		t.Error(v, err)
	}
	if ok, err := Holds(e, nil); ok || err != api.ErrArg {
		t.Error(ok, err)
	}
}

// randomRight is a right expression of at most this depth.
func randomRight(r *rand.Rand, deep int) api.Expr {
	switch n := r.Intn(10); {
	case deep <= 1 || n < 1:
		if r.Intn(2) == 0 {
			return prop([]string{"n", "b", "i", "f", "t", "max", "twice", "absent"}[r.Intn(8)])
		}
		values := rightValues()
		return lit(values[r.Intn(len(values))])
	case n < 3:
		return op(ones[r.Intn(2)], randomRight(r, deep-1))
	}
	return op(twos[r.Intn(len(twos))], randomRight(r, deep-1), randomRight(r, deep-1))
}

// spots is each part of e, where it stands.
func spots(e *api.Expr) []*api.Expr {
	l := []*api.Expr{e}
	for i := range e.Kids {
		l = append(l, spots(&e.Kids[i])...)
	}
	return l
}

// spoil makes a right part wrong in one of the ways that there are for it.
func spoil(r *rand.Rand, e *api.Expr) {
	values := something()
	if e.Kind == api.ExprLit {
		values = wrongValues()
	}
	switch r.Intn(4) {
	case 0:
		e.Value = values[r.Intn(len(values))]
	case 1:
		e.Kids = append(slices.Clone(e.Kids), prop("x"), prop("x"))
	case 2:
		e.Kind = []int{-1, 0, 4, 5, 6, 7, 8, 9}[r.Intn(8)]
	default:
		e.Name = map[int]string{api.ExprLit: "x", api.ExprProp: "", api.ExprOp: noOps[r.Intn(len(noOps))]}[e.Kind]
	}
}

func TestSpoilt(t *testing.T) {
	r := rand.New(rand.NewSource(5))
	for range 20000 {
		e := randomRight(r, 1+r.Intn(6))
		wantRight(t, true, e)
		l := spots(&e)
		spoil(r, l[r.Intn(len(l))])
		wantRight(t, false, e)
		if v, err := Eval(e, nil); v != (api.Value{}) || err != api.ErrArg {
			t.Errorf("Eval %#v: %v %v", e, v, err)
		}
	}
}
