package label

import (
	"math"
	"slices"
	"strings"
	"testing"

	"bridleway/api"
)

func name(s string) api.Expr { return api.Expr{Kind: api.LabelName, Name: s} }

func some() api.Expr { return api.Expr{Kind: api.LabelAny} }

func not(e api.Expr) api.Expr { return api.Expr{Kind: api.LabelNot, Kids: []api.Expr{e}} }

func and(a, b api.Expr) api.Expr { return api.Expr{Kind: api.LabelAnd, Kids: []api.Expr{a, b}} }

func or(a, b api.Expr) api.Expr { return api.Expr{Kind: api.LabelOr, Kids: []api.Expr{a, b}} }

// oneOfEach is a right expression of each kind, ExprNone last.
func oneOfEach() []api.Expr {
	return []api.Expr{name("A"), some(), not(name("A")), and(name("A"), name("B")), or(name("A"), some()), {}}
}

// around is e as a part of others, at each place that there is.
func around(e api.Expr) []api.Expr {
	return []api.Expr{not(e), and(e, name("A")), and(name("A"), e), or(e, name("A")), or(name("A"), e), not(not(e)), or(some(), and(some(), e))}
}

// nested is n deep, by each of ways in turn, around e.
func nested(n int, e api.Expr, ways ...func(api.Expr) api.Expr) api.Expr {
	for i := range n - 1 {
		e = ways[i%len(ways)](e)
	}
	return e
}

// ways is each way in which an expression may be one deeper.
func ways() []func(api.Expr) api.Expr {
	return []func(api.Expr) api.Expr{
		not,
		func(e api.Expr) api.Expr { return and(e, some()) },
		func(e api.Expr) api.Expr { return and(some(), e) },
		func(e api.Expr) api.Expr { return or(e, name("A")) },
		func(e api.Expr) api.Expr { return or(name("A"), e) },
	}
}

// wantRight holds all calls to what is right: of what is not, nothing holds, and there are no names.
func wantRight(t *testing.T, want bool, l ...api.Expr) {
	t.Helper()
	for _, e := range l {
		if Right(e) != want {
			t.Errorf("Right %#v: %v", e, !want)
		}
		if want {
			continue
		}
		for _, labels := range [][]string{nil, {"A"}, {"B"}, {"A", "B"}, {""}, {"1"}, {"Z", "A", "A"}} {
			if Has(labels, e) {
				t.Errorf("Has %q %#v", labels, e)
			}
		}
		if names := Names(e); len(names) > 0 {
			t.Errorf("Names %#v: %q", e, names)
		}
	}
}

func wantWord(t *testing.T, want bool, l ...string) {
	t.Helper()
	for _, s := range l {
		if Word(s) != want {
			t.Errorf("Word %q: %v", s, !want)
		}
		wantRight(t, want, name(s), not(name(s)), and(some(), name(s)))
	}
}

const (
	letters = "ABCDEFGHIJKLMNOPQRSTUVWXYZabcdefghijklmnopqrstuvwxyz_"
	digits  = "0123456789"
)

// TestBytes: each byte there is, alone, first, within and last.
func TestBytes(t *testing.T) {
	for b := range 256 {
		s := string([]byte{byte(b)})
		first, later := strings.Contains(letters, s), strings.Contains(letters+digits, s)
		wantWord(t, first, s, s+"x", s+"9", s+"_")
		wantWord(t, later, "x"+s, "_"+s, "x"+s+"y", "x9"+s+"9")
		wantWord(t, false, "9"+s, "-"+s, s+" ")
	}
}

func TestLengths(t *testing.T) {
	if MaxWord != 40 {
		t.Error(MaxWord)
	}
	wantWord(t, false, "")
	for n := 1; n <= 100; n++ {
		wantWord(t, n <= 40, strings.Repeat("x", n), strings.Repeat("_", n), "A"+strings.Repeat("7", n-1), strings.Repeat("Z", n-1)+"z")
	}
	wantWord(t, false, strings.Repeat("x", 256), strings.Repeat("x", 256+3), strings.Repeat("x", 1<<16+1), strings.Repeat("x", 1<<20))
}

func TestWords(t *testing.T) {
	wantWord(t, true, "a", "_", "__", "_1", "A9_z", "node", "Person", "null", "WHERE", letters[:40], "z"+digits)
	wantWord(t, false, "9", "12", "1a", "a-b", "a b", " a", "a ", "a\n", "\ta", "a.b", "a:b", "a$", "@a", "a'", "%", "!a", "a\x00", "\x00")
	// No ASCII: letters and digits of others, parts of them, and bytes that are none at all.
	wantWord(t, false, "\u00e9", "a\u00e9", "\u00e9a", "a\u00e9b", "\u212a", "\u017f", "a\u017f", "\uff21", "a\u0663", "\u0663", "a\u0301", "\ufffd", "a\ufffd", "\U0001d400", "a\U0001d7d8", "\u0441")
	wantWord(t, false, "\xff", "a\xff", "a\x80", "\x80a", "a\xc3", "\xc3", "a\xc1\xa1", "\xc1\x81", "a\xed\xa0\x80", "a\xe9b")
	wantWord(t, false, strings.Repeat("x", 38)+"\u00e9", strings.Repeat("x", 39)+"\u00e9", strings.Repeat("\u00e9", 20), strings.Repeat("\u00e9", 40))
}

// nothing is values that count as none.
func nothing() []api.Value { return []api.Value{{}, {F: 0}, {F: math.Copysign(0, -1)}} }

// something is values that may stand nowhere.
func something() []api.Value {
	return []api.Value{
		{Kind: api.Bool}, {Kind: api.Int}, {Kind: api.Float}, {Kind: api.Text}, {Kind: 5}, {Kind: -1}, {Kind: math.MinInt},
		{N: 1}, {N: -1}, {N: 1 << 32}, {N: math.MinInt64}, {S: "A"}, {S: "\x00"}, {S: " "},
		{F: 1}, {F: -1}, {F: math.SmallestNonzeroFloat64}, {F: -math.SmallestNonzeroFloat64}, {F: math.NaN()}, {F: math.Inf(1)}, {F: math.Inf(-1)},
		{Kind: api.Bool, N: 1}, {Kind: api.Text, S: "A"}, {Kind: api.Float, F: math.Copysign(0, -1)},
	}
}

// wantPart is wantRight of e, and of e as a part of others: ExprNone is none, however right it is.
func wantPart(t *testing.T, want bool, e api.Expr) {
	t.Helper()
	wantRight(t, want, e)
	wantRight(t, want && e.Kind != api.ExprNone, around(e)...)
}

func TestNothingElse(t *testing.T) {
	for _, right := range oneOfEach() {
		wantPart(t, true, right)
		for _, v := range nothing() {
			e := right
			e.Value = v
			wantPart(t, true, e)
		}
		for _, v := range something() {
			e := right
			e.Value = v
			wantPart(t, false, e)
		}
		for _, s := range []string{"A", "B", "_", "not"} {
			e := right
			e.Name = s
			wantPart(t, right.Kind == api.LabelName, e)
		}
		for _, s := range []string{"1", " ", "A ", "\x00", "\u00e9"} {
			e := right
			e.Name = s
			wantPart(t, false, e)
		}
	}
}

func TestKids(t *testing.T) {
	for _, right := range oneOfEach() {
		places, e := len(right.Kids), right
		for count := range 6 {
			e.Kids = slices.Repeat([]api.Expr{name("A")}, count)
			wantPart(t, count == places, e)
		}
		e.Kids = nil
		wantPart(t, places == 0, e)
		e.Kids = []api.Expr{{}}
		wantPart(t, false, e)
		e.Kids = make([]api.Expr, 100000)
		wantPart(t, false, e)
	}
}

// TestParts: whatever is wrong makes what it is a part of wrong, at whatever place.
func TestParts(t *testing.T) {
	for _, part := range oneOfEach() {
		wantRight(t, part.Kind != api.ExprNone, around(part)...)
	}
	for _, bad := range []api.Expr{
		{}, name(""), name("1"), {Kind: api.LabelNot}, {Kind: api.LabelAnd}, {Kind: api.LabelOr}, not(api.Expr{}), and(name("A"), api.Expr{}), or(api.Expr{}, name("A")),
		{Kind: api.LabelAny, Name: "A"}, {Kind: api.ExprNone, Name: "A"}, {Kind: api.ExprLit}, {Kind: api.ExprProp, Name: "A"}, {Kind: api.ExprOp, Name: "not", Kids: []api.Expr{name("A")}},
	} {
		wantRight(t, bad.Kind == api.ExprNone && bad.Name == "", bad)
		for _, e := range around(bad) {
			wantRight(t, false, e)
			wantRight(t, false, around(e)...)
		}
	}
}

func TestKinds(t *testing.T) {
	kinds := []int{api.ExprLit, api.ExprProp, api.ExprOp, 9, 10, 255, 256 + api.LabelAny, 1<<32 + api.LabelName, 1 << 32, -1, -api.LabelAny, math.MinInt, math.MaxInt}
	for _, kind := range kinds {
		for _, e := range oneOfEach() {
			e.Kind = kind
			wantRight(t, false, e)
			wantRight(t, false, around(e)...)
		}
	}
}

// TestDeep: 50 deep and no deeper, whichever way it goes down, and whatever stands there.
func TestDeep(t *testing.T) {
	for _, leaf := range []api.Expr{name("A"), some()} {
		for _, way := range ways() {
			for n := 1; n <= 120; n++ {
				wantRight(t, n <= 50, nested(n, leaf, way))
			}
		}
		for n := 1; n <= 120; n++ {
			wantRight(t, n <= 50, nested(n, leaf, ways()...))
		}
		wantRight(t, false, nested(9000, leaf, ways()...), nested(9000, leaf, not))
	}
	wantRight(t, false, nested(50, api.Expr{}, not), nested(50, name("1"), not), nested(49, api.Expr{}, ways()...))
}

// TestDeepest: the deepest part counts, on either side.
func TestDeepest(t *testing.T) {
	for _, n := range []int{1, 2, 7, 48, 49, 50, 51, 400} {
		for _, m := range []int{1, 2, 7, 48, 49, 50, 51, 400} {
			a, b := nested(n, name("A"), ways()...), nested(m, some(), ways()...)
			wantRight(t, max(n, m) < 50, and(a, b), or(a, b))
		}
	}
}

// TestWithoutEnd: what has itself among its Kids is too deep, and is known to be so.
func TestWithoutEnd(t *testing.T) {
	for _, joined := range []func(a, b api.Expr) api.Expr{and, or} {
		e := joined(name("A"), name("A"))
		e.Kids[1] = e
		wantRight(t, false, e)
		e.Kids[0] = e
		wantRight(t, false, e)
	}
	e := not(name("A"))
	e.Kids[0] = e
	wantRight(t, false, e)
}
