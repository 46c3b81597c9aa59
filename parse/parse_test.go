package parse

import (
	"fmt"
	"math"
	"strconv"
	"strings"
	"testing"

	"bridleway/api"
)

func node(name string) api.Pat { return api.Pat{Kind: api.PatNode, Var: name} }

func edge(name string, dir int) api.Pat { return api.Pat{Kind: api.PatEdge, Var: name, Dir: dir} }

func seq(l ...api.Pat) api.Pat { return api.Pat{Kind: api.PatSeq, Kids: l} }

func alt(l ...api.Pat) api.Pat { return api.Pat{Kind: api.PatAlt, Kids: l} }

func quant(least, most int, p api.Pat) api.Pat {
	return api.Pat{Kind: api.PatQuant, Min: least, Max: most, Kids: []api.Pat{p}}
}

func labelled(p api.Pat, e api.Expr) api.Pat {
	p.Label = e
	return p
}

func where(p api.Pat, e api.Expr) api.Pat {
	p.Where = e
	return p
}

func label(name string) api.Expr { return api.Expr{Kind: api.LabelName, Name: name} }

func anyLabel() api.Expr { return api.Expr{Kind: api.LabelAny} }

func notLabel(e api.Expr) api.Expr { return api.Expr{Kind: api.LabelNot, Kids: []api.Expr{e}} }

func andLabel(a, b api.Expr) api.Expr { return api.Expr{Kind: api.LabelAnd, Kids: []api.Expr{a, b}} }

func orLabel(a, b api.Expr) api.Expr { return api.Expr{Kind: api.LabelOr, Kids: []api.Expr{a, b}} }

func prop(name string) api.Expr { return api.Expr{Kind: api.ExprProp, Name: name} }

func lit(v api.Value) api.Expr { return api.Expr{Kind: api.ExprLit, Value: v} }

func op(name string, kids ...api.Expr) api.Expr {
	return api.Expr{Kind: api.ExprOp, Name: name, Kids: kids}
}

func null() api.Expr { return lit(api.Value{}) }

func truth(n int64) api.Expr { return lit(api.Value{Kind: api.Bool, N: n}) }

func number(n int64) api.Expr { return lit(api.Value{Kind: api.Int, N: n}) }

func float(f float64) api.Expr { return lit(api.Value{Kind: api.Float, F: f}) }

func text(s string) api.Expr { return lit(api.Value{Kind: api.Text, S: s}) }

func nan() float64 { return math.Float64frombits(0x7FF8000000000001) }

// dump tells all there is in x: unlike == it takes a nan for itself, and -0 for another than +0.
func dump(x any) string { return fmt.Sprintf("%#v", x) }

// brief is as much of a dump as can be looked through, without most of what is empty.
func brief(q api.Query) string {
	s := fmt.Sprintf("%+v", q)
	for _, empty := range []string{"Value:{Kind:0 N:0 F:0 S:} ", "Label:{Kind:0 Name: Kids:[]} ", "Where:{Kind:0 Name: Kids:[]} ", "Min:0 Max:0 ", "Kids:[]"} {
		s = strings.ReplaceAll(s, empty, "")
	}
	return s[:min(len(s), 400)]
}

func wantQuery(t *testing.T, s string, want api.Query) {
	t.Helper()
	q, at, e := Parse(s)
	if dump(q) != dump(want) || at != 0 || e != api.OK {
		t.Errorf("%.200q: %s %d %v, not %s", s, brief(q), at, e, brief(want))
	}
}

func wantPat(t *testing.T, s string, want api.Pat) {
	t.Helper()
	wantQuery(t, s, api.Query{Pat: want})
}

// wantLabels holds labels to this wherever some may stand.
func wantLabels(t *testing.T, s string, want api.Expr) {
	t.Helper()
	wantPat(t, "(:"+s+")", labelled(node(""), want))
	wantPat(t, "<-[x:"+s+" WHERE p]-", where(labelled(edge("x", 1), want), prop("p")))
}

// wantExpr holds an expr to this wherever one may stand.
func wantExpr(t *testing.T, s string, want api.Expr) {
	t.Helper()
	wantPat(t, "(WHERE "+s+")", where(node(""), want))
	wantPat(t, "~[x:A WHERE "+s+"]~>", where(labelled(edge("x", 6), label("A")), want))
}

// wantWrong holds Parse to an error and a place, with an empty query beside it.
func wantWrong(t *testing.T, s string, at int, e api.Errno) {
	t.Helper()
	q, gotAt, got := Parse(s)
	if dump(q) != dump(api.Query{}) || gotAt != at || got != e {
		t.Errorf("%.200q: %s %d %v, not %d %v", s, brief(q), gotAt, got, at, e)
	}
}

func TestParseOfTheExample(t *testing.T) {
	wantQuery(t, "TRAIL (a)-[:K]->{1,2}(b WHERE p > 3)", api.Query{Mode: 1, Pat: seq(
		node("a"),
		quant(1, 2, labelled(edge("", 4), label("K"))),
		where(node("b"), op(">", prop("p"), number(3))),
	)})
	wantQuery(t, " \tSIMPLE\n SHORTEST 12 [ ( a:A|%&!B ) <-[ e WHERE NOT p IS null OR 'x' <> - 5 * q ]- ( ) | ~> + ] ?\r\n", api.Query{Mode: 3, Select: 3, K: 12, Pat: quant(0, 1, alt(
		seq(
			labelled(node("a"), orLabel(label("A"), andLabel(anyLabel(), notLabel(label("B"))))),
			where(edge("e", 1), op("or", op("not", op("isnull", prop("p"))), op("<>", text("x"), op("*", number(-5), prop("q"))))),
			node(""),
		),
		quant(1, -1, edge("", 6)),
	))})
}

func TestParseModesAndSelections(t *testing.T) {
	for mode, m := range map[string]int{"": 0, "WALK ": 0, "TRAIL ": 1, "ACYCLIC ": 2, "SIMPLE ": 3} {
		for selection, q := range map[string]api.Query{
			"": {}, "ALL ": {}, "ANY ": {Select: 1}, "ALL SHORTEST ": {Select: 2}, "ALL\nSHORTEST\t": {Select: 2},
			"SHORTEST 1": {Select: 3, K: 1}, "SHORTEST 2 ": {Select: 3, K: 2}, "SHORTEST 999": {Select: 3, K: 999}, "SHORTEST 1000 ": {Select: 3, K: 1000},
		} {
			q.Mode = m
			q.Pat = node("a")
			wantQuery(t, mode+selection+"(a)", q)
			q.Pat = alt(edge("", 4), node(""))
			wantQuery(t, mode+selection+"->|()", q)
		}
	}
}

// directions is each edge there is: its open, its close, its short form, and its Dir.
func directions() [][4]string {
	return [][4]string{
		{"-[", "]->", "->", "4"}, {"<-[", "]-", "<-", "1"}, {"~[", "]~", "~", "2"}, {"<-[", "]->", "<->", "5"}, {"<~[", "]~", "<~", "3"}, {"~[", "]~>", "~>", "6"}, {"-[", "]-", "-", "7"},
	}
}

func TestParseDirections(t *testing.T) {
	for _, d := range directions() {
		dir, _ := strconv.Atoi(d[3])
		wantPat(t, d[2], edge("", dir))
		wantPat(t, d[0]+d[1], edge("", dir))
		wantPat(t, d[0]+" "+d[1], edge("", dir))
		wantPat(t, d[0]+"e"+d[1], edge("e", dir))
		wantPat(t, d[0]+"e:K WHERE p"+d[1]+"*", quant(0, -1, where(labelled(edge("e", dir), label("K")), prop("p"))))
		wantPat(t, "(a)"+d[2]+"(b)", seq(node("a"), edge("", dir), node("b")))
		wantPat(t, d[0]+"x"+d[1]+" "+d[2]+" "+d[2]+"?", seq(edge("x", dir), edge("", dir), quant(0, 1, edge("", dir))))
		wantPat(t, "["+d[2]+" ]"+"+", quant(1, -1, edge("", dir)))
	}
}

func TestParseFillings(t *testing.T) {
	a, p := label("A"), op("=", prop("p"), number(1))
	for filling, want := range map[string]api.Pat{
		"": {}, "x": {Var: "x"}, ":A": {Label: a}, "WHERE p=1": {Where: p}, "x:A": {Var: "x", Label: a}, "x WHERE p = 1": {Var: "x", Where: p}, ":A WHERE p=1": {Label: a, Where: p}, "x : A WHERE p = 1": {Var: "x", Label: a, Where: p},
		"_": {Var: "_"}, "where": {Var: "where"}, "Null:NAN WHERE TRUE=1": {Var: "Null", Label: label("NAN"), Where: op("=", prop("TRUE"), number(1))}, strings.Repeat("x", 40): {Var: strings.Repeat("x", 40)},
	} {
		want.Kind = api.PatNode
		wantPat(t, "("+filling+")", want)
		want.Kind = api.PatEdge
		want.Dir = api.Left
		wantPat(t, "<-["+filling+"]-", want)
	}
}

func TestParsePatterns(t *testing.T) {
	a, b, c, d, r := node("a"), node("b"), node("c"), node("d"), edge("", 4)
	for s, want := range map[string]api.Pat{
		"(a)": a, "(a)(b)": seq(a, b), "(a) (b) (c)": seq(a, b, c), "->->": seq(r, r), "(a)->(b)->(c)": seq(a, r, b, r, c),
		"(a)|(b)": alt(a, b), "(a)|(b)|(c)": alt(a, b, c), "(a)(b)|(c)": alt(seq(a, b), c), "(a)|(b)(c)": alt(a, seq(b, c)), "(a)(b)|(c)(d)": alt(seq(a, b), seq(c, d)),
		// What stands in brackets alone is it itself; else they keep it together.
		"[(a)]": a, "[[[(a)]]]": a, "[(a)(b)]": seq(a, b), "[(a)|(b)]": alt(a, b), "[[(a)][(b)]]": seq(a, b), "[(a)]|[(b)]": alt(a, b),
		"[(a)(b)](c)": seq(seq(a, b), c), "(a)[(b)(c)]": seq(a, seq(b, c)), "[(a)][(b)(c)][(d)]": seq(a, seq(b, c), d), "[(a)|(b)]|(c)": alt(alt(a, b), c), "(a)|[(b)|(c)]|(d)": alt(a, alt(b, c), d), "[(a)(b)]|(c)": alt(seq(a, b), c), "[(a)|(b)](c)|(d)": alt(seq(alt(a, b), c), d), "(a)[(b)|(c)(d)]": seq(a, alt(b, seq(c, d))),
		// Times are of the item ahead alone.
		"(a)*": quant(0, -1, a), "(a)+": quant(1, -1, a), "(a)?": quant(0, 1, a), "(a)(b)*": seq(a, quant(0, -1, b)), "(a)*(b)": seq(quant(0, -1, a), b), "(a)?|(b)+": alt(quant(0, 1, a), quant(1, -1, b)), "[(a)(b)]*": quant(0, -1, seq(a, b)), "[(a)|(b)]+(c)": seq(quant(1, -1, alt(a, b)), c), "[(a)]?": quant(0, 1, a), "[(a)*]*": quant(0, -1, quant(0, -1, a)), "[[(a)+]?]{2}": quant(2, 2, quant(0, 1, quant(1, -1, a))), "[(a)*]": quant(0, -1, a), "(a)*->?": seq(quant(0, -1, a), quant(0, 1, r)),
		"- [(a)]": seq(edge("", 7), a), "<- [(a)] -": seq(edge("", 1), a, edge("", 7)),
	} {
		wantPat(t, s, want)
	}
}

func TestParseTimes(t *testing.T) {
	for n := range 21 {
		s := strconv.Itoa(n)
		if n > 0 {
			wantPat(t, "->{"+s+"}", quant(n, n, edge("", 4)))
		}
		wantPat(t, "->{"+s+",}", quant(n, -1, edge("", 4)))
		for m := max(n, 1); m <= 20; m++ {
			wantPat(t, "(a){ "+s+" ,"+strconv.Itoa(m)+" }", quant(n, m, node("a")))
			wantPat(t, "[->(a)]{"+s+","+strconv.Itoa(m)+"}(b)", seq(quant(n, m, seq(edge("", 4), node("a"))), node("b")))
		}
	}
}

func TestParseLabels(t *testing.T) {
	a, b, c, d := label("A"), label("B"), label("C"), label("D")
	for s, want := range map[string]api.Expr{
		"A": a, "%": anyLabel(), "!A": notLabel(a), "!%": notLabel(anyLabel()), "! ! !A": notLabel(notLabel(notLabel(a))),
		"A|B": orLabel(a, b), "A|B|C": orLabel(orLabel(a, b), c), "A&B": andLabel(a, b), "A&B&C&D": andLabel(andLabel(andLabel(a, b), c), d),
		"A|B&C": orLabel(a, andLabel(b, c)), "A&B|C": orLabel(andLabel(a, b), c), "A&B|C&D": orLabel(andLabel(a, b), andLabel(c, d)), "A|B&C|D": orLabel(orLabel(a, andLabel(b, c)), d),
		"!A&B": andLabel(notLabel(a), b), "A|!B": orLabel(a, notLabel(b)), "!A|!!B&!%": orLabel(notLabel(a), andLabel(notLabel(notLabel(b)), notLabel(anyLabel()))),
		"(A)": a, "((A))": a, "!(A)": notLabel(a), "!(!(A))": notLabel(notLabel(a)), "(!A)": notLabel(a), "(%)": anyLabel(),
		"(A|B)&C": andLabel(orLabel(a, b), c), "A&(B|C)": andLabel(a, orLabel(b, c)), "!(A|B)": notLabel(orLabel(a, b)), "!(A&B)|C": orLabel(notLabel(andLabel(a, b)), c), "A|(B|C)": orLabel(a, orLabel(b, c)), "A&(B&C)": andLabel(a, andLabel(b, c)), "(A|B)|(C|D)": orLabel(orLabel(a, b), orLabel(c, d)), "!(A|(B&!(C|%)))&D": andLabel(notLabel(orLabel(a, andLabel(b, notLabel(orLabel(c, anyLabel()))))), d),
		"p": label("p"), "True": label("True"), "Where": label("Where"),
	} {
		wantLabels(t, s, want)
	}
}

func TestParseValues(t *testing.T) {
	for s, want := range map[string]api.Expr{
		"p": prop("p"), "_1": prop("_1"), "isnull": prop("isnull"), "NULL": prop("NULL"), "Inf": prop("Inf"),
		"null": null(), "true": truth(1), "false": truth(0), "nan": float(nan()), "inf": float(math.Inf(1)), "-inf": float(math.Inf(-1)), "- inf": float(math.Inf(-1)),
		"0": number(0), "7": number(7), "-7": number(-7), "-\n7": number(-7), "9223372036854775807": number(math.MaxInt64), "-9223372036854775807": number(-math.MaxInt64), "-9223372036854775808": number(math.MinInt64), "-  9223372036854775808": number(math.MinInt64),
		"0p0": float(0), "-0p0": float(math.Copysign(0, -1)), "- 0p0": float(math.Copysign(0, -1)), "3p-1": float(1.5), "-3p-1": float(-1.5), "1p-1074": float(math.SmallestNonzeroFloat64), "-9007199254740991p971": float(-math.MaxFloat64),
		"''": text(""), "'a b'": text("a b"), `'it\'s \\ \n'`: text("it's \\ \n"), "'null'": text("null"), "'\x00\xff'": text("\x00\xff"), "'-5'": text("-5"), "'(a)->'": text("(a)->"),
	} {
		wantExpr(t, s, want)
		wantExpr(t, "("+s+")", want)
		wantExpr(t, "p="+s, op("=", prop("p"), want))
		wantExpr(t, s+" IS null", op("isnull", want))
		wantExpr(t, "NOT "+s+"*"+s, op("not", op("*", want, want)))
		wantExpr(t, s+"-"+s, op("-", want, want))
		wantExpr(t, "q+ "+s, op("+", prop("q"), want))
	}
}

func TestParseExprs(t *testing.T) {
	a, b, c, d := prop("a"), prop("b"), prop("c"), prop("d")
	for s, want := range map[string]api.Expr{
		"a OR b": op("or", a, b), "a OR b OR c": op("or", op("or", a, b), c), "a AND b AND c": op("and", op("and", a, b), c), "a OR b AND c": op("or", a, op("and", b, c)), "a AND b OR c": op("or", op("and", a, b), c), "a AND b OR c AND d": op("or", op("and", a, b), op("and", c, d)), "(a OR b) AND c": op("and", op("or", a, b), c), "a OR (b OR c)": op("or", a, op("or", b, c)), "a AND (b OR c)": op("and", a, op("or", b, c)),
		"NOT a": op("not", a), "NOT NOT NOT a": op("not", op("not", op("not", a))), "NOT a AND b": op("and", op("not", a), b), "a OR NOT b": op("or", a, op("not", b)), "NOT (a AND b)": op("not", op("and", a, b)), "NOT a = b": op("not", op("=", a, b)), "(NOT a) = b": op("=", op("not", a), b), "NOT a IS null": op("not", op("isnull", a)), "(NOT a) IS null": op("isnull", op("not", a)), "a = (NOT b)": op("=", a, op("not", b)),
		"a IS null": op("isnull", a), "a + b IS null": op("isnull", op("+", a, b)), "a + (b IS null)": op("+", a, op("isnull", b)), "(a IS null) IS null": op("isnull", op("isnull", a)), "(a=b) IS null": op("isnull", op("=", a, b)), "a = (b IS null)": op("=", a, op("isnull", b)), "a IS null OR b IS null": op("or", op("isnull", a), op("isnull", b)), "null IS null": op("isnull", null()),
		"a=b AND c<>d": op("and", op("=", a, b), op("<>", c, d)), "(a = b) = c": op("=", op("=", a, b), c), "a = (b = c)": op("=", a, op("=", b, c)), "a + b < c * d": op("<", op("+", a, b), op("*", c, d)), "a*b+c>=d-a": op(">=", op("+", op("*", a, b), c), op("-", d, a)),
		"a + b": op("+", a, b), "a - b": op("-", a, b), "a * b": op("*", a, b), "a+b-c+d": op("+", op("-", op("+", a, b), c), d), "a-b-c": op("-", op("-", a, b), c), "a-(b-c)": op("-", a, op("-", b, c)), "a*b*c": op("*", op("*", a, b), c), "a*(b*c)": op("*", a, op("*", b, c)), "a+b*c": op("+", a, op("*", b, c)), "a*b+c": op("+", op("*", a, b), c), "(a+b)*c": op("*", op("+", a, b), c), "a*b-c*d": op("-", op("*", a, b), op("*", c, d)), "a-b*c*d": op("-", a, op("*", op("*", b, c), d)),
		// The first `-` behind a part is between two; one more is a number's.
		"a-1": op("-", a, number(1)), "a - -1": op("-", a, number(-1)), "a--1": op("-", a, number(-1)), "1-1": op("-", number(1), number(1)), "-1--1": op("-", number(-1), number(-1)), "a*-1": op("*", a, number(-1)), "-1*a": op("*", number(-1), a), "a+-inf": op("+", a, float(math.Inf(-1))), "a- -9223372036854775808": op("-", a, number(math.MinInt64)), "a<> -1": op("<>", a, number(-1)), "a=-1": op("=", a, number(-1)), "a- -0p0": op("-", a, float(math.Copysign(0, -1))), "3p-1": float(1.5), "3-p": op("-", number(3), prop("p")), "3 -1": op("-", number(3), number(1)),
		"((((a))))": a, "(a)+(b)": op("+", a, b), "(a)": a, "('x')": text("x"),
	} {
		wantExpr(t, s, want)
	}
	for _, sign := range strings.Fields("= <> < <= > >=") {
		wantExpr(t, "a "+sign+" b", op(sign, a, b))
		wantExpr(t, "a+b "+sign+" NOTb AND NOT c"+sign+"'d'", op("and", op(sign, op("+", a, b), prop("NOTb")), op("not", op(sign, c, text("d")))))
	}
}

// TestParseNeedsNoBlanks: only where tokens would be others without them.
func TestParseNeedsNoBlanks(t *testing.T) {
	for tight, wide := range map[string]string{
		"TRAIL(a)->(b)": "TRAIL ( a ) -> ( b )", "ALL SHORTEST->": "\nALL\n\nSHORTEST\t->", "SHORTEST 2(a)": "SHORTEST  2  (a)", "(a:A|B WHERE p=1)": "( a : A | B WHERE p = 1 )", "~[x:!A&%]~>{1,2}[(a)|(b)]*": "~[ x : ! A & % ]~> { 1 , 2 } [ ( a ) | ( b ) ] *", "(WHERE'a'<>b AND 1<c)": "(WHERE 'a' <> b AND 1 < c)",
		"(WHERE(a)OR(b)AND NOT(c))": "( WHERE ( a ) OR ( b ) AND NOT ( c ) )",
	} {
		q, _, e := Parse(tight)
		if e != api.OK {
			t.Errorf("%q: %v", tight, e)
		}
		wantQuery(t, wide, q)
	}
}

// TestParseTellsNewLists: whoever was told a query may write over it, and behind its lists.
func TestParseTellsNewLists(t *testing.T) {
	const s = "[(a:A|!B&C WHERE p=1 AND NOT q)->(d)(e)(f)]{2}|(b)(c)|(g)|(h)|(i)"
	q, _, _ := Parse(s)
	kept := dump(q)
	for _, l := range patLists(q.Pat) {
		_ = append(l, node("spoilt"))
	}
	if dump(q) != kept {
		t.Errorf("%s, not %s", dump(q), kept)
	}
	for _, l := range patLists(q.Pat) {
		clear(l)
	}
	if again, _, _ := Parse(s); dump(again) != kept {
		t.Errorf("%s, not %s", dump(again), kept)
	}
}

// patLists is all Kids within p.
func patLists(p api.Pat) [][]api.Pat {
	l := [][]api.Pat{p.Kids}
	for _, kid := range p.Kids {
		l = append(l, patLists(kid)...)
	}
	return l
}
