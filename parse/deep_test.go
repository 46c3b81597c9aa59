package parse

import (
	"strings"
	"testing"

	"bridleway/api"
)

// wantDeep holds Parse to a depth that may be, or to ErrLimit behind all.
func wantDeep(t *testing.T, s string, deep int) {
	t.Helper()
	if deep > 50 {
		wantWrong(t, s, 0, api.ErrLimit)
		return
	}
	if q, at, e := Parse(s); e != api.OK || at != 0 || q.Pat.Kind == 0 {
		t.Errorf("%.200q, %d deep: %s %d %v", s, deep, brief(q), at, e)
	}
}

func around(n int, open, s, shut string) string {
	return strings.Repeat(open, n) + s + strings.Repeat(shut, n)
}

func TestParseOfGroups(t *testing.T) {
	for n := range 120 {
		opens := strings.Repeat("[", n)
		if n <= 50 {
			wantPat(t, around(n, "[", "(a)", "]"), node("a"))
			wantPat(t, around(n, "[ ", "(a)|->", " ]"), alt(node("a"), edge("", 4)))
			wantWrong(t, opens, n, api.ErrSyntax)
			wantWrong(t, opens+")", n, api.ErrSyntax)
			continue
		}
		for _, s := range []string{opens, opens + "(a)", opens + ")", around(n, "[", "(a)", "]"), around(n, "[", "->", "]")} {
			wantWrong(t, s, 50, api.ErrLimit)
		}
		wantWrong(t, "(a)|->"+opens, 56, api.ErrLimit)
		wantWrong(t, strings.Repeat(" [", n), 101, api.ErrLimit)
	}
	// Only those count that are open: neither those ahead, nor edges' and fillings' own.
	full := around(50, "[", "(a)", "]")
	wantPat(t, full+full+"|"+full+full, alt(seq(node("a"), node("a")), seq(node("a"), node("a"))))
	wantWrong(t, full+"["+full, len(full)+50, api.ErrLimit)
	wantWrong(t, full+" "+"[[]", len(full)+3, api.ErrSyntax)
	wantPat(t, around(50, "[", "-[:((A)) WHERE ((p))]-><~[e]~", "]"), seq(where(labelled(edge("", 4), label("A")), prop("p")), edge("e", 3)))
	wantPat(t, "["+strings.Repeat("[(a)]", 200)+"]", seq(manyOf(200, node("a"))...))
	wantWrong(t, strings.Repeat("[", 65536), 50, api.ErrLimit)
}

func manyOf[T any](n int, x T) []T {
	var l []T
	for range n {
		l = append(l, x)
	}
	return l
}

func TestParseOfBrackets(t *testing.T) {
	for n := range 120 {
		opens := strings.Repeat("(", n)
		if n <= 50 {
			wantLabels(t, around(n, "(", "A", ")"), label("A"))
			wantExpr(t, around(n, "(", "p", ")"), prop("p"))
			wantPat(t, "(x:"+around(n, "(", "A", ")")+" WHERE "+around(n, "(", "p", ")")+")", where(labelled(node("x"), label("A")), prop("p")))
			wantWrong(t, "(:"+opens, n+2, api.ErrSyntax)
			wantWrong(t, "(WHERE "+opens, n+7, api.ErrSyntax)
			continue
		}
		for _, s := range []string{opens, opens + "A", opens + "]", around(n, "(", "A", ")"), around(n, "(", "A", ")") + ")"} {
			wantWrong(t, "(:"+s, 52, api.ErrLimit)
			wantWrong(t, "(WHERE "+s, 57, api.ErrLimit)
			wantWrong(t, "-[:A|!"+s, 56, api.ErrLimit)
			wantWrong(t, "-[WHERE p+"+s, 60, api.ErrLimit)
			wantWrong(t, around(50, "[", "(x:"+around(50, "(", "A", ")")+" WHERE "+s, ""), 50+3+101+7+50, api.ErrLimit)
		}
	}
	// Only those count that are open.
	full := around(50, "(", "x", ")")
	wantLabels(t, full+"&"+full, andLabel(label("x"), label("x")))
	wantExpr(t, full+"+"+full+" = "+full, op("=", op("+", prop("x"), prop("x")), prop("x")))
	wantWrong(t, "(:"+full+"|("+full, len(full)+4+49, api.ErrLimit)
	wantWrong(t, "(WHERE "+full+" OR ("+full, 7+len(full)+5+49, api.ErrLimit)
	wantPat(t, around(50, "[", "(x:"+full+" WHERE "+full+")-[:"+full+" WHERE "+full+"]-", "]"), seq(where(labelled(node("x"), label("x")), prop("x")), where(labelled(edge("", 7), label("x")), prop("x"))))
	wantPat(t, strings.Repeat("(WHERE "+full+")", 100), seq(manyOf(100, where(node(""), prop("x")))...))
}

// shapesOf is labels, and exprs, of each shape that is n deep.
func shapesOf(n int) (labels, exprs []string) {
	k := n - 1
	labels = []string{strings.Repeat("!", k) + "A", strings.Repeat("%|", k) + "A", strings.Repeat("A&", k) + "A"}
	exprs = []string{strings.Repeat("NOT ", k) + "p", strings.Repeat("p OR ", k) + "q", strings.Repeat("p AND ", k) + "q", strings.Repeat("1+", k) + "q", strings.Repeat("1-", k) + "-1", strings.Repeat("p*", k) + "'x'"}
	for _, c := range []string{"|", "&"} { // to the right, and turned
		if k <= 50 {
			labels = append(labels, around(k, "A"+c+"(", "%", ")"), around(k, "(", "%", ")"+c+"B"))
		}
		if n%2 == 1 && k <= 100 {
			labels = append(labels, around(k/2, "!(A"+c, "%", ")"))
		}
	}
	for _, c := range []string{" OR ", " AND ", "+", "-", "*", "=", "<", ">="} {
		if k <= 50 {
			exprs = append(exprs, around(k, "p"+c+"(", "q", ")"), around(k, "(", "q", ")"+c+"1"), around(k, "(", "q", " IS null)"))
		}
	}
	if n%2 == 1 && k <= 100 {
		exprs = append(exprs, around(k/2, "NOT (p OR ", "q", ")"), around(k/2, "NOT (p AND ", "q", ")"), around(k/2, "NOT (", "q", " IS null)"))
	}
	return labels, exprs
}

func TestParseOfDeepTerms(t *testing.T) {
	for n := 1; n <= 110; n++ {
		labels, exprs := shapesOf(n)
		for _, s := range labels {
			wantDeep(t, "(:"+s+")", n)
			wantDeep(t, "(a)<~[x:"+s+" WHERE p]~->*|(b)", n)
		}
		for _, s := range exprs {
			wantDeep(t, "(WHERE "+s+")", n)
			wantDeep(t, "(a)<~[x:A WHERE "+s+"]~->*|(b)", n)
		}
	}
}

// patternsOf is a pattern of each shape that is n deep.
func patternsOf(n int) []string {
	k := n - 1
	l := []string{}
	if k <= 50 {
		l = append(l, around(k, "[", "->", "]*"), around(k, "[(a)", "->", "]"), around(k, "[", "(a)", "] ->"), around(k, "[(a)|", "->", "]"), around(k, "[", "->", "]{1,2}"))
	}
	if n%2 == 1 {
		l = append(l, around(k/2, "[(a)", "->", "]+"), around(k/2, "[(a)|->", "(b)", "]"), around(k/2, "[(a)|", "(b)", "]?"))
	}
	if n%3 == 1 {
		l = append(l, around(k/3, "[(a)|->", "(b)", "]{0,20}"))
	}
	return l
}

func TestParseOfDeepPatterns(t *testing.T) {
	for n := 1; n <= 100; n++ {
		for _, s := range patternsOf(n) {
			wantDeep(t, s, n)
			wantDeep(t, "TRAIL SHORTEST 3 "+s, n)
		}
	}
	// Labels and exprs make no pattern deeper, nor the other way round.
	labels, exprs := shapesOf(50)
	for i, e := range exprs {
		wantDeep(t, around(49, "[", "(x:"+labels[i%len(labels)]+" WHERE "+e+")", "]?"), 50)
		wantDeep(t, around(50, "[", "(x:"+labels[i%len(labels)]+" WHERE "+e+")", "]?"), 51)
	}
	// Width is no depth.
	wantPat(t, strings.Repeat("(a)", 20000), seq(manyOf(20000, node("a"))...))
	wantPat(t, strings.Repeat("- ", 30000), seq(manyOf(30000, edge("", 7))...))
	wantPat(t, strings.Repeat("->|", 20000)+"->", alt(manyOf(20001, edge("", 4))...))
}

// TestParseOfTheDeepest: as deep as a text has room for.
func TestParseOfTheDeepest(t *testing.T) {
	wantWrong(t, "(:"+strings.Repeat("!", 65532)+"A)", 0, api.ErrLimit)
	wantWrong(t, "(:"+strings.Repeat("!", 65534), 65536, api.ErrSyntax)
	wantWrong(t, "(:"+strings.Repeat("A|", 32700)+"A)", 0, api.ErrLimit)
	wantWrong(t, "(:"+strings.Repeat("A&", 32700)+"A)", 0, api.ErrLimit)
	wantWrong(t, "(WHERE "+strings.Repeat("NOT ", 16300)+"p)", 0, api.ErrLimit)
	wantWrong(t, "(WHERE "+strings.Repeat("p+", 32700)+"p)", 0, api.ErrLimit)
	wantWrong(t, "(WHERE "+strings.Repeat("p*", 32700)+"p", 65408, api.ErrSyntax)
	wantWrong(t, "(WHERE "+strings.Repeat("1 OR ", 13000)+"1)", 0, api.ErrLimit)
	wantWrong(t, strings.Repeat("(", 65536), 1, api.ErrSyntax)
}
