package parse

import (
	"slices"
	"strings"
	"testing"

	"bridleway/api"
	"bridleway/lex"
)

// wantStops holds Parse to ErrSyntax at what stands behind the mark `@`, whatever comes then; at the text's end, if nothing does.
func wantStops(t *testing.T, marked ...string) {
	t.Helper()
	for _, m := range marked {
		ahead, behind, found := strings.Cut(m, "@")
		if !found {
			t.Fatalf("%q has no mark", m)
		}
		wantWrong(t, ahead+behind, len(ahead), api.ErrSyntax)
		wantWrong(t, "\n "+ahead+behind, len(ahead)+2, api.ErrSyntax)
		if behind == "" {
			wantWrong(t, ahead+" \t ", len(ahead)+3, api.ErrSyntax)
			continue
		}
		for _, s := range []string{" ", " )", " (a)", " WALK", " ]", " 'x'", " 1001 }", strings.Repeat(" [", 60)} {
			wantWrong(t, ahead+behind+s, len(ahead), api.ErrSyntax)
		}
	}
}

// TestParseTellsLex: the error of Lex is told ahead of all others.
func TestParseTellsLex(t *testing.T) {
	for _, s := range []string{"$", "(a) $", ") $", "((( 'x", "->{0} \x00", "(a)" + strings.Repeat("x", 41), strings.Repeat("[", 60) + "#", "SHORTEST 0 .", "(WHERE 1.5)", "(a)\n->\n(b);"} {
		_, at, e := lex.Lex(s)
		if e != api.ErrSyntax {
			t.Errorf("%q: %v", s, e)
		}
		wantWrong(t, s, at, e)
	}
	for _, s := range []string{"(a)", ")", "$", strings.Repeat("[", 60)} {
		wantWrong(t, s+strings.Repeat(" ", 65537-len(s)), 0, api.ErrLimit)
		wantWrong(t, strings.Repeat(" ", 65537-len(s))+s, 0, api.ErrLimit)
	}
	wantPat(t, "(a)"+strings.Repeat(" ", 65533), node("a"))
	wantPat(t, strings.Repeat(" ", 65533)+"(a)", node("a"))
	wantWrong(t, "("+strings.Repeat(" ", 65535), 65536, api.ErrSyntax)
	wantWrong(t, strings.Repeat(" ", 65535)+")", 65535, api.ErrSyntax)
}

// TestParseOfWrongBeginnings: each token there is with which no query begins.
func TestParseOfWrongBeginnings(t *testing.T) {
	all := "@walk @Trail @a @_ @1 @0 @3p-1 @'a' @'' @WHERE @OR @AND @NOT @IS @null @true @false @inf @nan @]-> @]~> @]- @]~ @<= @>= @<> @) @] @{ @} @, @: @| @& @! @% @* @+ @? @= @< @>"
	wantStops(t, strings.Fields(all)...)
	for _, head := range []string{"WALK ", "ALL ", "ANY ", "ACYCLIC ALL SHORTEST ", "SHORTEST 1 ", "SIMPLE SHORTEST 1000 ", "[ ", "(a) | ", "[ [ (a) | "} {
		for _, m := range strings.Fields(all) {
			wantStops(t, head+m)
		}
		wantStops(t, head+"@", head+"@TRAIL")
	}
	for _, mode := range []string{"WALK", "TRAIL", "ACYCLIC", "SIMPLE"} {
		for _, head := range []string{"WALK ", "TRAIL ", "ALL ", "ANY ", "SIMPLE ALL SHORTEST ", "SHORTEST 7 ", "SHORTEST ", "(a) ", "-> ", "[ "} {
			wantStops(t, head+"@"+mode)
		}
	}
	for _, selection := range []string{"ALL", "ANY", "SHORTEST"} {
		for _, head := range []string{"ANY ", "WALK ANY ", "ALL SHORTEST ", "SHORTEST 7 ", "SHORTEST ", "(a) ", "-> ", "[ ", "(a) | "} {
			wantStops(t, head+"@"+selection)
		}
	}
	wantStops(t, "@", "ALL @ALL", "ALL @ANY", "ALL @7")
}

func TestParseOfWrongShortest(t *testing.T) {
	wantStops(t, "SHORTEST @", "SHORTEST @(a)", "SHORTEST @'1'", "SHORTEST @x", "SHORTEST @- 1", "SHORTEST @+ 1", "SHORTEST @inf", "SHORTEST 1 @2", "SHORTEST 10 @0 (a)", "ALL SHORTEST @1")
	for _, n := range []string{"0", "1p0", "3p-1", "0p0", "1p1023", "1p3", "9223372036854775808", "9007199254740991p971"} {
		wantStops(t, "SHORTEST @"+n, "SHORTEST @"+n+" (a)", "TRAIL SHORTEST @"+n+" (a)", "SHORTEST @"+n+" WALK")
	}
	for _, n := range []string{"1001", "1002", "2000", "10000", "4294967296", "4294967297", "9223372036854775807"} {
		wantWrong(t, "SHORTEST "+n, 9, api.ErrLimit)
		wantWrong(t, "SHORTEST "+n+" ) (", 9, api.ErrLimit)
		wantWrong(t, " ACYCLIC\tSHORTEST  "+n+"(a)", 19, api.ErrLimit)
	}
}

func TestParseOfWhatIsNotDone(t *testing.T) {
	wantStops(t, "(@", "(a@", "(a:@", "(a:A@", "(a:A|@", "(a:A&@", "(a:!@", "(a:(@", "(a:(A@", "(a WHERE@", "(a WHERE p@", "-[@", "<-[e@", "~[:A@", "<~[WHERE p@", "[@", "[(a)@", "[(a)|@", "(a)|@", "->|@", "(a){@", "(a){1@", "(a){1,@", "(a){1,2@", "[[(a)]@", "[->]|[@", "(a)(b)(@", "->*|(c@")
}

func TestParseOfWrongPatterns(t *testing.T) {
	wantStops(t, "(a) @)", "(a) @]", "(a) @}", "(a) @,", "(a) @a", "(a) @1", "(a) @'a'", "(a) @: A", "(a) @WHERE", "(a) @&", "(a) @!", "(a) @%", "(a) @=", "(a) @<", "(a) @<=", "(a) @<>", "(a) @]->", "(a) @null", "(a) @NOT")
	wantStops(t, "( @(a)", "( @1 )", "( @'a' )", "( @- )", "( @null )", "( @inf )", "( @ALL )", "( @[ )", "( @-> )", "( @-[ )", "( @* )", "( @| )", "( @% )", "( @] )", "( @]->", "( a @b )", "( a @a )", "( a @, b )", "( a @| b )", "( a @* )", "( a @( b ) )", "( a @] )", "( a @]->", "( a @= 1 )", "( a @AND )", "( a @-> )")
	wantStops(t, "[ @]", "[ @| (a) ]", "[ (a) | @]", "[ (a) @)", "[ (a) @]->", "[ (a) @]- ->", "[ (a) @]~> ]", "[ (a) | @| ]", "[ @a ]", "[ @WALK (a) ]", "[ @* ]", "[ [ @] ]", "[ (a) @}", "(a) | @| (b)", "(a) | @* (b)", "-> @WHERE p", "[ - @]-[]-", "-> @: A", "-> @)", "[->@]->")
	wantStops(t, "(a)* @*", "(a)* @+", "(a)+ @?", "(a)? @{ 1 }", "(a){1} @{ 1 }", "(a){1} @*", "(a)| @+", "[ @+ (a)]", "->+ @+", "[(a)*]* @*", "(a) * ( b ) * @?")
	for _, d := range directions() {
		for _, behind := range []string{"@)", "@]", "x @]", "x @)", "@[", "@-[", "@<-[", "@->", "@1", "x @y ]->", ": @]->", "WHERE @]->", "x : A @: B", "x WHERE p @WHERE q", "@null", "@-", "x @, y"} {
			wantStops(t, d[0]+" "+behind)
		}
	}
}

// TestParseClosesGoWithOpens goes through each open with each close.
func TestParseClosesGoWithOpens(t *testing.T) {
	count := 0
	for _, open := range []string{"-[", "<-[", "~[", "<~["} {
		for _, shut := range []string{"]->", "]-", "]~", "]~>"} {
			if slices.ContainsFunc(directions(), func(d [4]string) bool { return d[0] == open && d[1] == shut }) {
				count++
				continue
			}
			wantStops(t, open+"@"+shut, open+"x:A WHERE p @"+shut, "(a)"+open+"e@"+shut, "["+open+"@"+shut+" (b)")
		}
	}
	if count != 7 {
		t.Error(count)
	}
}

func TestParseOfWrongTimes(t *testing.T) {
	wantStops(t, "(a){ @}", "(a){ @, }", "(a){ @, 2 }", "(a){ @x }", "(a){ @'1' }", "(a){ @- 1 }", "(a){ @+ 1 }", "(a){ @{", "(a){ @inf }", "(a){1 @2 }", "(a){1 @x }", "(a){1 @- 2 }", "(a){1 @: 2 }", "(a){1 @)", "(a){1 @]", "(a){1, @, 2 }", "(a){1, @x }", "(a){1, @- 2 }", "(a){1, @'2' }", "(a){1,2 @, }", "(a){1,2 @, 3 }", "(a){1,2 @3 }", "(a){1,2 @)", "(a){0@0 }", "(a){0@1 ,2}", "(a){1,0@2 }", "(a){1@p }", "(a){12@p0 }", "(a){1,} @}", "(a){1} @}")
	// A number that is no Int is wrong when it is read, at the `{`.
	for _, n := range []string{"1p0", "0p0", "3p-1", "1p4", "9223372036854775808", "9007199254740991p971"} {
		wantStops(t, "(a)@{"+n+" }", "(a) @{ "+n+" , }", "(a)@{"+n+" , 2 }", "-> @{ 1 , "+n+" }", "->@{ 30 , "+n, "[(a)]@{ "+n+" x", "(a)@{ 1 , "+n+" x", "(a)@{0,"+n+" }", "(a)@{"+n+" ,1", "(a)@{"+n+" ,0 }", "(a)*(b)@{2,"+n)
		wantStops(t, "(a){1 @"+n+" }", "(a){30 @"+n+" }", "(a){2,1 @"+n+" }", "(a){ @-"+n+" }")
	}
	// The rest is wrong when the `}` was read.
	wantStops(t, "(a)@{0}", "(a)@{0,0}", "(a)@{1,0}", "(a)@{30,0}", "(a)@{2,1}", "(a)@{20,19}", "(a)@{21,20}", "(a)@{25,22}", "(a)@{9223372036854775807,1}", "-> @{ 3 , 2 }", "[(a)]@{0}", "(a)|(b)->@{5,4}", "(a)*->@{0}")
	wantStops(t, "(a){0@", "(a){0,0@", "(a){2,1@", "(a){21@", "(a){21,@", "(a){99,98@", "(a){0 @x }", "(a){2,1 @x }", "(a){21 @x }", "(a){21, @x }", "(a){21,22 @, }", "(a){0,0 @)", "(a){9223372036854775807, @->", "(a){30,20 @(")
	for _, bounds := range []string{"{21}", "{21,}", "{21,21}", "{0,21}", "{20,21}", "{1,22}", "{ 100 , 200 }", "{256}", "{257,258}", "{4294967297}", "{0,4294967296}", "{4294967296,}", "{9223372036854775807}", "{9223372036854775807,}", "{0,9223372036854775807}", "{9223372036854775807,9223372036854775807}"} {
		wantWrong(t, "(a)"+bounds, 3, api.ErrLimit)
		wantWrong(t, "->"+bounds+" ) (", 2, api.ErrLimit)
		wantWrong(t, "[(a)|(b)] "+bounds+"{0}", 10, api.ErrLimit)
	}
}

func TestParseOfWrongLabels(t *testing.T) {
	wantStops(t, "(: @)", "(: @: A)", "(:A @: B)", "(: @| A)", "(:A| @)", "(:A| @| B)", "(:A& @)", "(:A& @& B)", "(:A& @| B)", "(:A| @& B)", "(:A @! B)", "(:A @B )", "(:A @% )", "(:% @A )", "(:% @% )", "(:! @)", "(:! @| A)", "(: @1 )", "(: @'A' )", "(: @null )", "(: @true )", "(: @- A)", "(: @NOT A)", "(: @WHERE p)", "(: @* )", "(:A @* )", "(:A @, B)", "(:A @OR B)", "(:A @AND B)", "(:A @= B)", "(:A @+ B)")
	wantStops(t, "(:( @) )", "(:(A @B ) )", "(:(A @]", "(:(A) @A )", "(:(A) @(B))", "(:A @(B))", "(:(A @: B))", "(:(A @WHERE p))", "(: @] )", "(:A @]->", "(:A|B @]", "-[:A @)", "-[:(A @]->", "-[:(A) @)", "(:((A) @]", "(:(A)) @)", "(:( ! ! @& ", "(:!(! @& A)")
}

func TestParseOfWrongExprs(t *testing.T) {
	wantStops(t, "(WHERE @)", "(WHERE @WHERE )", "(WHERE p @WHERE q)", "(WHERE p @: A)", "(WHERE p @q )", "(WHERE p @'x' )", "(WHERE p @(q))", "(WHERE (p) @q )", "(WHERE 1 @2 )", "(WHERE 1 @p )", "(WHERE p @, q)", "(WHERE p @| q)", "(WHERE p @& q)", "(WHERE @! p)", "(WHERE @% )", "(WHERE p @]", "(WHERE p @]->", "-[WHERE p @)", "-[WHERE (p @]->", "(WHERE (p @]", "(WHERE p @NOT q)", "(WHERE @ALL )", "(WHERE inf @inf )", "(WHERE nan @nan )", "(WHERE null @null )", "(WHERE true @false )")
	wantStops(t, "(WHERE @OR p)", "(WHERE p OR @)", "(WHERE p OR @OR q)", "(WHERE p AND @)", "(WHERE p AND @AND q)", "(WHERE p AND @OR q)", "(WHERE NOT @)", "(WHERE NOT @AND p)", "(WHERE NOT @OR )", "(WHERE p = @NOT q)", "(WHERE p + @NOT q)", "(WHERE p = (@))", "(WHERE (@))", "(WHERE (p OR @))", "(WHERE NOT NOT @IS null)")
	wantStops(t, "(WHERE p = @)", "(WHERE @= p)", "(WHERE p = q @= r)", "(WHERE p < q @< r)", "(WHERE p <> q @>= r)", "(WHERE p = q @<> r)", "(WHERE p = @= q)", "(WHERE p < @= q)", "(WHERE p > @> q)", "(WHERE p @<-1)", "(WHERE p @-> 1)", "(WHERE p @<~ 1)", "(WHERE p @~ q)", "(WHERE p @-[ q)", "(WHERE p @! = q)", "(WHERE p = q OR r = s @= t)")
	wantStops(t, "(WHERE @IS null)", "(WHERE p IS @", "(WHERE p IS @NOT null)", "(WHERE p IS @true )", "(WHERE p IS @p )", "(WHERE p IS @'null' )", "(WHERE p IS @(null))", "(WHERE p IS null @IS null)", "(WHERE p IS null @= q)", "(WHERE p = q @IS null)", "(WHERE p IS null @null )", "(WHERE p IS null @+ 1)", "(WHERE NOT p IS null @IS null)")
	wantStops(t, "(WHERE @+ p)", "(WHERE p + @)", "(WHERE p + @+ q)", "(WHERE p + @* q)", "(WHERE p * @)", "(WHERE @* p)", "(WHERE p * @* q)", "(WHERE p * @+ q)", "(WHERE p - @)", "(WHERE p * - @)", "(WHERE @+ 1)", "(WHERE @? )", "(WHERE p @? )", "(WHERE p @{ 1})", "(WHERE @[ p])", "(WHERE p @[ )")
	wantStops(t, "(WHERE - @)", "(WHERE - @p )", "(WHERE - @- 1)", "(WHERE p - - @- 1)", "(WHERE - @(1))", "(WHERE - @nan )", "(WHERE - @null )", "(WHERE - @true )", "(WHERE - @'1' )", "(WHERE - @NOT p)", "(WHERE p -- @q )", "(WHERE p - - @(q))", "(WHERE p * - @p )", "(WHERE - @", "(WHERE p = - @)")
}

// TestParseOfNoNumbers: what is a number with a `-` ahead alone, or without one alone.
func TestParseOfNoNumbers(t *testing.T) {
	const great = "9223372036854775808"
	for _, ahead := range []string{"", "(", "p = ", "p - ", "p-", "1-", "(p)-", "'x'-", "null-", "inf - ", "-1-", "-" + great + "-", "p*", "p+", "NOT ", "p IS null OR ", "- inf * - inf - "} {
		wantStops(t, "(WHERE "+ahead+"@"+great, "(WHERE "+ahead+"@"+great+" )", "(WHERE "+ahead+"@"+great+" OR q)", "-[x:A WHERE "+ahead+"@"+great+" ]->")
	}
	for _, ahead := range []string{"-", "- ", "p = -", "p - -", "p--", "(-", "q * -", "1 <> -", "NOT -"} {
		wantStops(t, "(WHERE "+ahead+"@0", "(WHERE "+ahead+"@0 )", "(WHERE "+ahead+"@0 0", "<-[WHERE "+ahead+"@0 * q]-")
	}
	wantExpr(t, "p-0", op("-", prop("p"), number(0)))
	wantExpr(t, "0-0", op("-", number(0), number(0)))
}

// TestParseTellsTheFirst: of several that are wrong the one that is read first; a depth alone is told behind all.
func TestParseTellsTheFirst(t *testing.T) {
	groups, nots := strings.Repeat("[", 50), "(:"+strings.Repeat("!", 60)+"A"
	for s, want := range map[string]struct {
		at int
		e  api.Errno
	}{
		"SHORTEST 1001 ->{0}": {9, api.ErrLimit}, "SHORTEST 0 ->{21}": {9, api.ErrSyntax}, "->{21}->{0}": {2, api.ErrLimit}, "->{0}->{21}": {2, api.ErrSyntax}, "->{21}}": {2, api.ErrLimit}, "->{21)}": {5, api.ErrSyntax}, "(a)->{21}": {5, api.ErrLimit}, "(a WHERE)->{21}": {8, api.ErrSyntax},
		groups + "[->{0}": {50, api.ErrLimit}, groups + "->{21}[": {52, api.ErrLimit}, groups + "]": {50, api.ErrSyntax}, groups + ")[": {50, api.ErrSyntax},
		nots + ")->{0}": {66, api.ErrSyntax}, nots + ")->{21}": {66, api.ErrLimit}, nots + ")->{2}": {0, api.ErrLimit}, nots: {63, api.ErrSyntax}, nots + " WHERE p OR": {74, api.ErrSyntax}, nots + ")]": {64, api.ErrSyntax}, nots + " A": {64, api.ErrSyntax},
	} {
		wantWrong(t, s, want.at, want.e)
	}
}
