package expr

import (
	"math"
	"math/rand"
	"slices"
	"testing"

	"bridleway/api"
	"bridleway/logic"
	"bridleway/value"
)

var (
	null api.Value
	no   = boolean(0)
	yes  = boolean(1)
)

// some is one property of each kind, one that is there twice, and one that has no name.
func some() []api.Prop {
	return []api.Prop{
		{Name: "n"}, {Name: "b", Value: yes}, {Name: "i", Value: whole(2)}, {Name: "f", Value: float(1.5)}, {Name: "t", Value: text("hi")},
		{Name: "twice", Value: whole(1)}, {Name: "max", Value: whole(math.MaxInt64)}, {Name: "twice", Value: text("two")}, {Name: "", Value: whole(9)}, {Name: "nan", Value: float(nan())}, {Name: "-0", Value: float(negativeZero)},
		{Name: "nullfirst"}, {Name: "nullfirst", Value: yes},
	}
}

// exactly holds floats against each other by their bits.
func exactly(a, b api.Value) bool {
	same := math.Float64bits(a.F) == math.Float64bits(b.F)
	a.F, b.F = 0, 0
	return same && a == b
}

type asked struct {
	e    api.Expr
	want api.Value
	err  api.Errno
}

func checkEval(t *testing.T, l []asked) {
	t.Helper()
	for _, x := range l {
		if v, err := Eval(x.e, some()); !exactly(v, x.want) || err != x.err {
			t.Errorf("Eval %#v: %#v %v, not %#v %v", x.e, v, err, x.want, x.err)
		}
	}
}

// Three parts that go wrong, or would.
func over() api.Expr { return op("+", prop("max"), lit(whole(1))) }

func mistyped() api.Expr { return op("=", prop("t"), prop("i")) }

func unknown() api.Expr { return op("=", prop("absent"), prop("i")) }

func TestLeaves(t *testing.T) {
	for _, v := range rightValues() {
		checkEval(t, []asked{{lit(v), v, api.OK}})
		got, err := Eval(prop("x"), []api.Prop{{Name: "w", Value: yes}, {Name: "x", Value: v}, {Name: "x", Value: text("later")}})
		if !exactly(got, v) || err != api.OK {
			t.Errorf("%#v: %#v %v", v, got, err)
		}
	}
	checkEval(t, []asked{
		{prop("i"), whole(2), api.OK}, {prop("t"), text("hi"), api.OK}, {prop("n"), null, api.OK}, {prop("nan"), float(nan()), api.OK}, {prop("-0"), float(negativeZero), api.OK},
		{prop("twice"), whole(1), api.OK}, {prop("nullfirst"), null, api.OK},
		{prop("absent"), null, api.OK}, {prop("I"), null, api.OK}, {prop("twic"), null, api.OK}, {prop("twice "), null, api.OK}, {prop("\x00"), null, api.OK},
		{prop(""), null, api.ErrArg},
	})
	if v, err := Eval(prop("i"), nil); v != null || err != api.OK {
		t.Error(v, err)
	}
}

func TestOperators(t *testing.T) {
	i, f, s, b, n := prop("i"), prop("f"), prop("t"), prop("b"), prop("absent")
	checkEval(t, []asked{
		{op("<", i, lit(whole(3))), yes, api.OK}, {op("<", n, lit(whole(3))), null, api.OK}, {op("<", lit(whole(3)), i), no, api.OK}, {op(">", lit(whole(3)), i), yes, api.OK},
		{op("<=", f, i), yes, api.OK}, {op(">=", f, i), no, api.OK}, {op("=", i, lit(float(2))), yes, api.OK}, {op("<>", s, lit(text("hi"))), no, api.OK}, {op("=", prop("nan"), prop("nan")), no, api.OK},
		{op("=", n, n), null, api.OK}, {op("<>", lit(null), s), null, api.OK}, {op("<", lit(no), b), yes, api.OK},
		{op("+", i, f), float(3.5), api.OK}, {op("-", i, lit(whole(5))), whole(-3), api.OK}, {op("-", lit(whole(5)), i), whole(3), api.OK}, {op("*", i, lit(whole(-3))), whole(-6), api.OK}, {op("*", n, i), null, api.OK},
		{op("*", lit(float(0)), lit(float(math.Inf(1)))), float(nan()), api.OK}, {op("*", prop("-0"), i), float(negativeZero), api.OK}, {op("+", lit(float(math.MaxFloat64)), lit(float(math.MaxFloat64))), float(math.Inf(1)), api.OK},
		{op("isnull", n), yes, api.OK}, {op("isnull", prop("n")), yes, api.OK}, {op("isnull", i), no, api.OK}, {op("isnull", s), no, api.OK}, {op("isnull", lit(text(""))), no, api.OK}, {op("isnull", lit(no)), no, api.OK}, {op("isnull", prop("nan")), no, api.OK}, {op("isnull", op("isnull", n)), no, api.OK},
		{op("isnull", unknown()), yes, api.OK}, {op("isnull", op("+", n, i)), yes, api.OK}, {op("not", unknown()), null, api.OK},
		{op("+", op("*", i, i), op("-", i, f)), float(4.5), api.OK},
	})
}

// TestTruths: and, or, not of all of no, yes and null.
func TestTruths(t *testing.T) {
	l := []api.Value{no, yes, null}
	ands := [][]api.Value{{no, no, no}, {no, yes, null}, {no, null, null}}
	ors := [][]api.Value{{no, yes, null}, {yes, yes, yes}, {null, yes, null}}
	nots := []api.Value{yes, no, null}
	for i, a := range l {
		checkEval(t, []asked{{op("not", lit(a)), nots[i], api.OK}})
		for j, b := range l {
			checkEval(t, []asked{{op("and", lit(a), lit(b)), ands[i][j], api.OK}, {op("or", lit(a), lit(b)), ors[i][j], api.OK}})
		}
	}
}

// TestSettled: what settles an answer spares no other part its fault, on either side.
func TestSettled(t *testing.T) {
	for _, bad := range []struct {
		e   api.Expr
		err api.Errno
	}{
		{over(), api.ErrOverflow}, {op("isnull", over()), api.ErrOverflow}, {op("=", over(), prop("absent")), api.ErrOverflow}, {op("not", op("<", over(), over())), api.ErrOverflow},
		{op("+", over(), lit(whole(1))), api.ErrOverflow}, {op("*", over(), lit(float(2))), api.ErrOverflow}, {op("-", lit(whole(math.MinInt64)), lit(whole(1))), api.ErrOverflow}, {op("*", prop("max"), prop("i")), api.ErrOverflow},
		{mistyped(), api.ErrType}, {op("isnull", mistyped()), api.ErrType}, {op("not", prop("i")), api.ErrType}, {op("not", lit(text("true"))), api.ErrType}, {op("+", prop("t"), prop("t")), api.ErrType}, {op("-", prop("b"), prop("i")), api.ErrType}, {op("*", prop("i"), prop("b")), api.ErrType},
		{op("and", prop("b"), prop("i")), api.ErrType}, {op("and", prop("f"), prop("b")), api.ErrType}, {op("or", prop("b"), prop("t")), api.ErrType}, {op("or", prop("i"), prop("absent")), api.ErrType}, {op("and", lit(no), lit(whole(0))), api.ErrType}, {op("or", lit(yes), lit(whole(1))), api.ErrType}, {op("<", prop("b"), prop("i")), api.ErrType},
		{op("=", over(), mistyped()), api.ErrType}, {op("and", op("=", over(), prop("i")), mistyped()), api.ErrType}, {op("or", mistyped(), op("isnull", over())), api.ErrType}, {op("+", op("+", prop("t"), over()), over()), api.ErrOverflow},
	} {
		checkEval(t, []asked{{bad.e, null, bad.err}})
		for _, good := range []api.Expr{lit(yes), lit(no), lit(null), unknown()} {
			for _, name := range []string{"and", "or", "="} {
				around := op("isnull", bad.e)
				checkEval(t, []asked{{op(name, good, around), null, bad.err}, {op(name, around, good), null, bad.err}})
			}
		}
	}
}

// TestBeside: a wrong type outweighs an overflow, whichever comes first and however deep it stands.
func TestBeside(t *testing.T) {
	for _, name := range twos {
		for _, n := range []int{0, 1, 5, 40} {
			a, b := op("isnull", over()), op("isnull", mistyped())
			for range n {
				a = op("isnull", a)
			}
			checkEval(t, []asked{
				{op(name, a, b), null, api.ErrType}, {op(name, b, a), null, api.ErrType},
				{op("isnull", op(name, b, a)), null, api.ErrType},
			})
		}
	}
}

// TestNullStands: where a part has overflowed, null stands for it, with which nothing is of a wrong type.
func TestNullStands(t *testing.T) {
	for _, name := range twos {
		for _, other := range []string{"t", "b", "i", "absent"} {
			want := api.ErrOverflow
			if _, err := Eval(op(name, lit(null), prop(other)), some()); err != api.OK {
				want = err
			}
			checkEval(t, []asked{{op(name, over(), prop(other)), null, want}, {op(name, prop(other), over()), null, want}})
		}
	}
	checkEval(t, []asked{
		{op("not", over()), null, api.ErrOverflow}, {op("=", over(), prop("t")), null, api.ErrOverflow}, {op("and", over(), prop("b")), null, api.ErrOverflow}, {op("+", over(), prop("t")), null, api.ErrOverflow}, {op("and", over(), prop("t")), null, api.ErrType},
		{op("+", op("isnull", over()), prop("i")), null, api.ErrType},
	})
}

func TestEvalOfWrong(t *testing.T) {
	checkEval(t, []asked{
		{api.Expr{}, null, api.ErrArg}, {api.Expr{Kind: api.LabelAny}, null, api.ErrArg}, {api.Expr{Kind: api.LabelName, Name: "i"}, null, api.ErrArg}, {api.Expr{Kind: 9}, null, api.ErrArg}, {api.Expr{Kind: -3}, null, api.ErrArg},
		{op("no", lit(whole(1))), null, api.ErrArg}, {op("not", lit(yes), lit(yes)), null, api.ErrArg}, {op("not"), null, api.ErrArg}, {op("and", lit(yes)), null, api.ErrArg}, {op("-", prop("i")), null, api.ErrArg}, {op("and", lit(yes), lit(yes), lit(yes)), null, api.ErrArg},
		{op("and", mistyped(), api.Expr{}), null, api.ErrArg}, {op("and", over(), prop("")), null, api.ErrArg}, {op("or", mistyped(), lit(boolean(2))), null, api.ErrArg},
		{api.Expr{Kind: api.ExprProp, Name: "i", Value: api.Value{F: 1}}, null, api.ErrArg}, {api.Expr{Kind: api.ExprProp, Name: "i", Value: api.Value{F: negativeZero}}, whole(2), api.OK},
		{nested(50, []string{"isnull"}, prop("i")), no, api.OK}, {nested(51, []string{"isnull"}, prop("i")), null, api.ErrArg}, {nested(9000, []string{"isnull"}, prop("i")), null, api.ErrArg},
		{nested(50, []string{"not"}, prop("b")), no, api.OK}, {nested(49, []string{"not"}, prop("b")), yes, api.OK}, {nested(50, []string{"and", "or"}, prop("i")), null, api.ErrType}, {nested(51, []string{"and", "or"}, prop("i")), null, api.ErrArg},
		{nested(50, []string{"+"}, lit(whole(1))), whole(50), api.OK}, {nested(50, []string{"*"}, prop("i")), whole(1 << 50), api.OK}, {nested(50, []string{"*"}, lit(whole(3))), null, api.ErrOverflow},
	})
}

func TestHolds(t *testing.T) {
	for _, x := range []struct {
		e    api.Expr
		want bool
		err  api.Errno
	}{
		{api.Expr{}, true, api.OK}, {api.Expr{Kids: []api.Expr{}}, true, api.OK}, {api.Expr{Name: "i"}, true, api.OK}, {api.Expr{Value: no, Kids: []api.Expr{mistyped()}}, true, api.OK},
		{lit(yes), true, api.OK}, {lit(no), false, api.OK}, {lit(null), false, api.OK}, {prop("b"), true, api.OK}, {prop("absent"), false, api.OK}, {prop("n"), false, api.OK},
		{op("<", prop("i"), lit(whole(3))), true, api.OK}, {op("<", prop("absent"), lit(whole(3))), false, api.OK}, {op(">", prop("i"), lit(whole(3))), false, api.OK}, {op("not", unknown()), false, api.OK}, {op("+", prop("i"), prop("absent")), false, api.OK},
		{prop("i"), false, api.ErrType}, {prop("f"), false, api.ErrType}, {prop("t"), false, api.ErrType}, {lit(whole(1)), false, api.ErrType}, {lit(whole(0)), false, api.ErrType}, {lit(float(1)), false, api.ErrType}, {lit(text("")), false, api.ErrType}, {op("+", prop("i"), prop("i")), false, api.ErrType},
		{mistyped(), false, api.ErrType}, {over(), false, api.ErrOverflow}, {op("or", lit(yes), op("isnull", over())), false, api.ErrOverflow}, {op("or", lit(yes), op("not", prop("i"))), false, api.ErrType},
		{prop(""), false, api.ErrArg}, {op("no", prop("i")), false, api.ErrArg}, {op("not", api.Expr{}), false, api.ErrArg}, {api.Expr{Kind: api.LabelAny}, false, api.ErrArg}, {api.Expr{Kind: -1}, false, api.ErrArg}, {api.Expr{Kind: 9}, false, api.ErrArg}, {lit(boolean(2)), false, api.ErrArg},
		{nested(50, []string{"not"}, lit(no)), true, api.OK}, {nested(51, []string{"not"}, lit(yes)), false, api.ErrArg},
	} {
		if ok, err := Holds(x.e, some()); ok != x.want || err != x.err {
			t.Errorf("Holds %#v: %v %v, not %v %v", x.e, ok, err, x.want, x.err)
		}
	}
	if ok, err := Holds(api.Expr{}, nil); !ok || err != api.OK {
		t.Error(ok, err)
	}
}

// faults is which errors the parts have; worked out from the last part to the first, none of them spared.
type faults map[api.Errno]int

func (l faults) value(e api.Expr, props map[string]api.Value) api.Value {
	kids := make([]api.Value, len(e.Kids))
	truths := make([]logic.Truth, len(e.Kids))
	for i := len(kids) - 1; i >= 0; i-- {
		kids[i] = l.value(e.Kids[i], props)
		if slices.Contains([]string{"and", "or", "not"}, e.Name) && e.Kind == api.ExprOp {
			var err api.Errno
			truths[i], err = logic.Of(kids[i])
			l[err]++
		}
	}
	var v api.Value
	var err api.Errno
	switch {
	case e.Kind == api.ExprLit:
		v = e.Value
	case e.Kind == api.ExprProp:
		v = props[e.Name]
	case e.Name == "and":
		v = logic.And(truths...).Value()
	case e.Name == "or":
		v = logic.Or(truths...).Value()
	case e.Name == "not":
		v = logic.Not(truths[0]).Value()
	case e.Name == "isnull" && value.Same(kids[0], null):
		v = yes
	case e.Name == "isnull":
		v = no
	case slices.Contains([]string{"+", "-", "*"}, e.Name):
		v, err = value.Reckon(e.Name, kids[0], kids[1])
	default:
		v, err = value.Test(e.Name, kids[0], kids[1])
	}
	l[err]++
	return v
}

func (l faults) worst() api.Errno {
	for _, err := range []api.Errno{api.ErrType, api.ErrOverflow} {
		if l[err] > 0 {
			return err
		}
	}
	return api.OK
}

func TestRandom(t *testing.T) {
	r := rand.New(rand.NewSource(6))
	byName := map[string]api.Value{}
	props := some()
	for _, p := range slices.Backward(props) {
		byName[p.Name] = p.Value
	}
	met := faults{}
	for range 60000 {
		e := randomRight(r, 1+r.Intn(5))
		l := faults{}
		want, wantErr := l.value(e, byName), l.worst()
		met[wantErr]++
		if wantErr != api.OK {
			want = null
		}
		if v, err := Eval(e, props); !exactly(v, want) || err != wantErr {
			t.Fatalf("Eval %#v: %#v %v, not %#v %v", e, v, err, want, wantErr)
		}
		if wantErr == api.OK && want.Kind > api.Bool {
			wantErr = api.ErrType
		}
		if ok, err := Holds(e, props); ok != (wantErr == api.OK && want == yes) || err != wantErr {
			t.Fatalf("Holds %#v: %v %v", e, ok, err)
		}
	}
	if met[api.OK] < 1000 || met[api.ErrType] < 1000 || met[api.ErrOverflow] < 100 {
		t.Error("too few of a sort:", met)
	}
}

// turned is e with the operands of what may be turned round the other way, all through.
func turned(e api.Expr) api.Expr {
	e.Kids = slices.Clone(e.Kids)
	for i := range e.Kids {
		e.Kids[i] = turned(e.Kids[i])
	}
	if e.Kind != api.ExprOp || len(e.Kids) != 2 || e.Name == "-" {
		return e
	}
	slices.Reverse(e.Kids)
	if back, ok := map[string]string{"<": ">", ">": "<", "<=": ">=", ">=": "<="}[e.Name]; ok {
		e.Name = back
	}
	return e
}

// TestTurned: in which order parts are looked at does not matter.
func TestTurned(t *testing.T) {
	r := rand.New(rand.NewSource(7))
	for range 20000 {
		e := randomRight(r, 1+r.Intn(6))
		v, err := Eval(e, some())
		w, other := Eval(turned(e), some())
		if !exactly(v, w) || err != other {
			t.Fatalf("%#v: %#v %v, turned round %#v %v", e, v, err, w, other)
		}
	}
}

// TestWrongProperties: of values that are not right nothing is told, but that calls end, and as before.
func TestWrongProperties(t *testing.T) {
	for _, v := range wrongValues() {
		props := []api.Prop{{Name: "x", Value: v}, {Name: "i", Value: whole(1)}}
		for _, name := range ops() {
			e := op(name, kidsFor(name)...)
			a, err := Eval(e, props)
			b, again := Eval(e, props)
			if !exactly(a, b) || err != again {
				t.Errorf("%s %#v: %#v %v, then %#v %v", name, v, a, err, b, again)
			}
			if err != api.OK && a != null {
				t.Errorf("%s %#v: %#v beside %v", name, v, a, err)
			}
			if ok, err := Holds(e, props); ok && err != api.OK {
				t.Errorf("%s %#v: holds, beside %v", name, v, err)
			}
		}
	}
}

// TestUntouched: what is handed in stays as it was.
func TestUntouched(t *testing.T) {
	r := rand.New(rand.NewSource(8))
	props := some()
	for range 2000 {
		seed := r.Int63()
		e, before := randomRight(rand.New(rand.NewSource(seed)), 5), randomRight(rand.New(rand.NewSource(seed)), 5)
		Right(e)
		Depth(e)
		Eval(e, props)
		Holds(e, props)
		if !alike(e, before) {
			t.Fatalf("%#v became %#v", before, e)
		}
	}
	if !slices.EqualFunc(props, some(), func(a, b api.Prop) bool { return a.Name == b.Name && exactly(a.Value, b.Value) }) {
		t.Error(props)
	}
}

func alike(a, b api.Expr) bool {
	return a.Kind == b.Kind && a.Name == b.Name && exactly(a.Value, b.Value) && slices.EqualFunc(a.Kids, b.Kids, alike)
}
