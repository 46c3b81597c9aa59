package lex

import (
	"slices"
	"strings"
	"testing"

	"bridleway/api"
)

func word(text string, at int) Token { return Token{TokWord, text, at} }

func key(text string, at int) Token { return Token{TokKey, text, at} }

func number(text string, at int) Token { return Token{TokNumber, text, at} }

func quoted(text string, at int) Token { return Token{TokQuoted, text, at} }

func sign(text string, at int) Token { return Token{TokSign, text, at} }

const (
	letters = "ABCDEFGHIJKLMNOPQRSTUVWXYZabcdefghijklmnopqrstuvwxyz_"
	digits  = "0123456789"
	// Bytes with which some token begins, or a sign goes on, and blanks.
	alone  = "()[]{},:|&!%*+?=<>-~"
	spaces = " \t\r\n"
)

func allKeys() []string {
	return strings.Fields("WALK TRAIL ACYCLIC SIMPLE ALL ANY SHORTEST WHERE OR AND NOT IS null true false inf nan")
}

func allSigns() []string {
	return strings.Fields("<-[ <~[ ]-> ]~> <-> -[ ~[ ]- ]~ -> <- <~ ~> <= >= <> ( ) [ ] { } , : | & ! % * + ? = < > - ~")
}

// brief is as much of a list as can be looked through.
func brief[T any](l []T) []T { return l[:min(len(l), 20)] }

// wantTokens holds Lex to these, and to what follows: what is told is told again of its Text.
func wantTokens(t *testing.T, s string, want ...Token) {
	t.Helper()
	l, at, e := Lex(s)
	if !slices.Equal(l, want) || at != 0 || e != api.OK {
		t.Errorf("%.80q: %v %d %v, not %v", s, brief(l), at, e, brief(want))
		return
	}
	for _, k := range l {
		if k.Text != s[k.At:k.At+len(k.Text)] {
			t.Errorf("%.80q: %v does not stand there", s, k)
		}
	}
	wantAgain(t, l)
}

// wantAgain is of tokens that Lex told: if there is room for their Text, that has them again, but for where they stand.
func wantAgain(t *testing.T, l []Token) {
	t.Helper()
	s := Text(l)
	if len(s) > 65536 {
		return
	}
	again, at, e := Lex(s)
	same := slices.EqualFunc(again, l, func(a, b Token) bool { return a.Kind == b.Kind && a.Text == b.Text })
	if !same || at != 0 || e != api.OK || Text(again) != s {
		t.Errorf("%.80q: %v %d %v, not %v", s, brief(again), at, e, brief(l))
	}
}

// wantTexts is wantTokens for tokens that are told by their Texts alone.
func wantTexts(t *testing.T, s string, want ...string) {
	t.Helper()
	l, at, e := Lex(s)
	same := slices.EqualFunc(l, want, func(k Token, text string) bool { return k.Text == text })
	if !same || at != 0 || e != api.OK {
		t.Errorf("%.80q: %v %d %v, not %q", s, brief(l), at, e, brief(want))
	}
	wantAgain(t, l)
}

// wantWrong holds Lex to an error and a place, with no tokens beside it, whatever right ones stand ahead.
func wantWrong(t *testing.T, s string, at int, e api.Errno) {
	t.Helper()
	l, got, gotE := Lex(s)
	if len(l) > 0 || got != at || gotE != e {
		t.Errorf("%.80q: %v %d %v, not %d %v", s, brief(l), got, gotE, at, e)
	}
}

func TestNumbersOfKindsAndLimits(t *testing.T) {
	if l := []int{TokWord, TokKey, TokNumber, TokQuoted, TokSign}; !slices.Equal(l, []int{1, 2, 3, 4, 5}) || MaxBytes != 65536 {
		t.Error(l, MaxBytes)
	}
}

func TestLexExamples(t *testing.T) {
	wantTokens(t, "(a)-[e]->(b)", sign("(", 0), word("a", 1), sign(")", 2), sign("-[", 3), word("e", 5), sign("]->", 6), sign("(", 9), word("b", 10), sign(")", 11))
	wantTokens(t, "TRAIL (a)-[:K]->{1,2}(b WHERE p > 3)",
		key("TRAIL", 0), sign("(", 6), word("a", 7), sign(")", 8), sign("-[", 9), sign(":", 11), word("K", 12), sign("]->", 13), sign("{", 16), number("1", 17), sign(",", 18), number("2", 19), sign("}", 20),
		sign("(", 21), word("b", 22), key("WHERE", 24), word("p", 30), sign(">", 32), number("3", 34), sign(")", 35))
	wantTokens(t, "SHORTEST 2[(:A|!B&%)~[WHERE x='it\\'s' OR NOT y IS null]~>]*",
		key("SHORTEST", 0), number("2", 9), sign("[", 10), sign("(", 11), sign(":", 12), word("A", 13), sign("|", 14), sign("!", 15), word("B", 16), sign("&", 17), sign("%", 18), sign(")", 19), sign("~[", 20),
		key("WHERE", 22), word("x", 28), sign("=", 29), quoted(`'it\'s'`, 30), key("OR", 38), key("NOT", 41), word("y", 45), key("IS", 47), key("null", 50), sign("]~>", 54), sign("]", 57), sign("*", 58))
}

func TestLexBlanks(t *testing.T) {
	for _, s := range []string{"", " ", "\t", "\r", "\n", spaces, strings.Repeat(spaces, 1000)} {
		wantTokens(t, s)
		wantTokens(t, s+"a"+s, word("a", len(s)))
		wantTokens(t, s+"-"+s+"5"+s, sign("-", len(s)), number("5", 2*len(s)+1))
	}
	for _, c := range spaces {
		b := string(c)
		wantTokens(t, "a"+b+"b", word("a", 0), word("b", 2))
		wantTokens(t, "1"+b+"2"+b, number("1", 0), number("2", 2))
		wantTokens(t, "<"+b+"-"+b+"[", sign("<", 0), sign("-", 2), sign("[", 4))
		wantTokens(t, "]-"+b+">", sign("]-", 0), sign(">", 3))
		wantTokens(t, "''"+b+"''", quoted("''", 0), quoted("''", 3))
		wantTokens(t, "WHE"+b+"RE", word("WHE", 0), word("RE", 4))
		wantTokens(t, "3p"+b+"-1", number("3", 0), word("p", 1), sign("-", 3), number("1", 4))
	}
	// Blanks of others are none.
	for _, s := range []string{"\v", "\f", "\x00", "\b", "\x1f", "\x7f", "\u0085", "\u00a0", "\u2003", "\u2028", "\ufeff", "\x85", "\xa0"} {
		wantWrong(t, s, 0, api.ErrSyntax)
		wantWrong(t, "a"+s+"b", 1, api.ErrSyntax)
		wantWrong(t, " a "+s, 3, api.ErrSyntax)
	}
}

func TestLexWords(t *testing.T) {
	long := strings.Repeat("x", 40)
	for _, s := range []string{"a", "Z", "_", "__", "_1", "a1", "A9_z", "p", "e1", "p0", "x007", letters[:40], "z" + digits, long, "_" + strings.Repeat("9", 39), "WHERE" + long[:35]} {
		wantTokens(t, s, word(s, 0))
		wantTokens(t, s+" "+s+"("+s, word(s, 0), word(s, len(s)+1), sign("(", 2*len(s)+1), word(s, 2*len(s)+2))
		wantTokens(t, s+"-1", word(s, 0), sign("-", len(s)), number("1", len(s)+1))
		wantTokens(t, s+"'"+s+"'", word(s, 0), quoted("'"+s+"'", len(s)))
	}
	for n := 1; n <= 100; n++ {
		for _, s := range []string{strings.Repeat("x", n), strings.Repeat("_", n), "A" + strings.Repeat("7", n-1), strings.Repeat("NOT", n)[:n]} {
			if n <= 40 {
				wantTexts(t, s, s)
				wantTexts(t, "("+s+")1"+s, "(", s, ")", "1", s)
				continue
			}
			wantWrong(t, s, 0, api.ErrSyntax)
			wantWrong(t, s+" ", 0, api.ErrSyntax)
			wantWrong(t, "a "+s+" $", 2, api.ErrSyntax)
			wantWrong(t, "(12"+s, 3, api.ErrSyntax)
			wantWrong(t, "''"+s+"''", 2, api.ErrSyntax)
		}
	}
	for _, n := range []int{256, 256 + 40, 65536} {
		wantWrong(t, strings.Repeat("x", n), 0, api.ErrSyntax)
	}
}

func TestLexKeys(t *testing.T) {
	if n := len(allKeys()); n != 17 {
		t.Error(n)
	}
	for _, k := range allKeys() {
		wantTokens(t, k, key(k, 0))
		wantTokens(t, "("+k+")", sign("(", 0), key(k, 1), sign(")", len(k)+1))
		wantTokens(t, "-"+k+"-1", sign("-", 0), key(k, 1), sign("-", len(k)+1), number("1", len(k)+2))
		wantTokens(t, k+" "+k, key(k, 0), key(k, len(k)+1))
		wantTokens(t, "1"+k, number("1", 0), key(k, 1))
		for _, other := range []string{k + "x", k + "_", k + "1", "_" + k, "x" + k, k + k, strings.ToLower(k) + "E", strings.ToUpper(k) + "e", k[1:] + "9", k[:1] + strings.ToLower(k[1:]) + k[:1]} {
			wantTokens(t, other, word(other, 0))
		}
		for _, other := range []string{strings.ToLower(k), strings.ToUpper(k), strings.ToUpper(k[:1]) + strings.ToLower(k[1:]), k[:len(k)-1], k[1:]} {
			if !slices.Contains(allKeys(), other) {
				wantTokens(t, other, word(other, 0))
			}
		}
	}
	for _, s := range []string{"node", "edge", "XOR", "NULL", "TRUE", "FALSE", "INF", "NAN", "NaN", "where", "and", "or", "not", "is", "all", "any", "Walk", "walk", "isnull", "ISNULL", "infinity", "AS", "IN", "K", "ALLSHORTEST", "ALL_SHORTEST", "MATCH", "RETURN"} {
		wantTokens(t, s, word(s, 0))
	}
}

func TestLexNumbers(t *testing.T) {
	for _, s := range []string{
		"0", "1", "9", "10", "12", "907", "1000000", "9223372036854775807",
		// With a `-` ahead alone, be there one or not.
		"9223372036854775808",
		"0p0", "1p0", "3p-1", "5p1", "7p10", "11p-100", "9007199254740991p0", "9007199254740991p971", "9007199254740991p-1074", "1p1023", "1p-1074", "9007199254740991p-1073",
	} {
		wantTokens(t, s, number(s, 0))
		wantTokens(t, "-"+s, sign("-", 0), number(s, 1))
		wantTokens(t, "--"+s+" "+s, sign("-", 0), sign("-", 1), number(s, 2), number(s, len(s)+3))
		wantTokens(t, "{"+s+","+s+"}", sign("{", 0), number(s, 1), sign(",", len(s)+1), number(s, len(s)+2), sign("}", 2*len(s)+2))
		wantTokens(t, s+"x7 "+s, number(s, 0), word("x7", len(s)), number(s, len(s)+3))
		wantTokens(t, s+"_", number(s, 0), word("_", len(s)))
		wantTokens(t, s+"''"+s, number(s, 0), quoted("''", len(s)), number(s, len(s)+2))
		wantTokens(t, "<"+s+"<="+s, sign("<", 0), number(s, 1), sign("<=", len(s)+1), number(s, len(s)+3))
		wantTokens(t, s+"-"+s, number(s, 0), sign("-", len(s)), number(s, len(s)+1))
	}
}

func TestLexNumbersAreTheLongest(t *testing.T) {
	for s, want := range map[string]string{
		"007": "0 0 7", "00": "0 0", "01": "0 1", "10": "10", "0p": "0 p", "0p1": "0 p1", "0p0": "0p0", "0p00": "0p0 0", "00p0": "0 0p0", "0p-0": "0 p - 0", "0p-1": "0 p - 1", "01p0": "0 1p0",
		"12p": "12 p", "12p0": "12 p0", "12p1": "12 p1", "3p": "3 p", "3px": "3 px", "3p-": "3 p -", "3p-0": "3 p - 0", "3p-1": "3p-1", "3p-01": "3 p - 0 1", "3p01": "3p0 1", "3p+1": "3 p + 1", "3p -1": "3 p - 1", "3p--1": "3 p - - 1", "3P-1": "3 P - 1", "3p_1": "3 p_1", "3p-x": "3 p - x", "3p-[": "3 p -[", "3p->": "3 p ->", "3p-1-1": "3p-1 - 1", "3p-1p1": "3p-1 p1", "3p1p1": "3p1 p1", "3p1->": "3p1 ->",
		"1.5": "", "1e5": "1 e5", "0x1p0": "0 x1p0", "1_0": "1 _0", "1-1": "1 - 1", "1--1": "1 - - 1", "1->2": "1 -> 2", "1<-2": "1 <- 2", "5inf": "5 inf", "5nan": "5 nan", "-inf": "- inf", "-0": "- 0", "-0p0": "- 0p0", "-nan": "- nan", "+1": "+ 1",
		"9223372036854775807": "9223372036854775807", "9223372036854775808": "9223372036854775808", "-9223372036854775808": "- 9223372036854775808", "9223372036854775809": "922337203685477580 9", "-9223372036854775809": "- 922337203685477580 9", "9223372036854775810": "922337203685477581 0",
		"92233720368547758070": "9223372036854775807 0", "92233720368547758080": "9223372036854775808 0", "92233720368547758081": "9223372036854775808 1", "92233720368547758090": "922337203685477580 90", "10000000000000000000": "1000000000000000000 0", "18446744073709551616": "1844674407370955161 6",
		"9007199254740993p0": "9007199254740993 p0", "9007199254740991p972": "9007199254740991p97 2", "9007199254740991p-1075": "9007199254740991p-107 5", "9007199254740991p-10740": "9007199254740991p-1074 0", "9007199254740991p-1074p": "9007199254740991p-1074 p", "9223372036854775807p0": "9223372036854775807 p0", "9223372036854775808p0": "9223372036854775808 p0",
		"1p1023": "1p1023", "1p1024": "1p102 4", "1p10230": "1p1023 0", "1p-1074": "1p-1074", "1p-1075": "1p-107 5", "3p1022": "3p1022", "3p1023": "3p102 3", "1p-10740": "1p-1074 0",
	} {
		if want == "" {
			wantWrong(t, s, 1, api.ErrSyntax)
			continue
		}
		wantTexts(t, s, strings.Split(want, " ")...)
		wantTexts(t, "a "+s+" (", slices.Concat([]string{"a"}, strings.Split(want, " "), []string{"("})...)
	}
	zeros, _, e := Lex(strings.Repeat("0", 65536))
	if len(zeros) != 65536 || e != api.OK || zeros[65535] != number("0", 65535) {
		t.Errorf("%d zeros, %v", len(zeros), e)
	}
	ones, _, e := Lex(strings.Repeat("1", 65536))
	if len(ones) != 65536/19+1 || e != api.OK || ones[1] != number(strings.Repeat("1", 19), 19) || ones[65536/19] != number("11111", 65531) {
		t.Errorf("%d ones, %v", len(ones), e)
	}
}

func TestLexQuoted(t *testing.T) {
	for _, s := range []string{"''", "'a'", "' '", "'a b'", `'it\'s'`, `'\\'`, `'\n'`, `'\\n'`, `'\'\\\n\''`, "'\t\r'", "'\x00\x7f\x80\xff'", "'\u00e9'", "'null'", "'1'", "'(a)->(b)'", "'WHERE'", "'" + strings.Repeat("x", 41) + "'", "'" + strings.Repeat("x", 65534) + "'"} {
		wantTokens(t, s, quoted(s, 0))
		if len(s) > 100 {
			continue
		}
		wantTokens(t, s+s, quoted(s, 0), quoted(s, len(s)))
		wantTokens(t, "x="+s+" y", word("x", 0), sign("=", 1), quoted(s, 2), word("y", len(s)+3))
		wantTokens(t, "1"+s+"a", number("1", 0), quoted(s, 1), word("a", len(s)+1))
	}
	for c := range 256 {
		s := "'" + string([]byte{byte(c)}) + "'"
		switch c {
		case '\'':
			wantWrong(t, s, 2, api.ErrSyntax)
		case '\\', '\n':
			wantWrong(t, s, 0, api.ErrSyntax)
		default:
			wantTokens(t, s, quoted(s, 0))
		}
		s = `'\` + s[1:]
		if strings.IndexByte(`\'n`, byte(c)) >= 0 {
			wantTokens(t, s, quoted(s, 0))
		} else {
			wantWrong(t, s, 0, api.ErrSyntax)
		}
	}
	wantTokens(t, "'a''b'", quoted("'a'", 0), quoted("'b'", 3))
	wantTokens(t, "'a'b'c'", quoted("'a'", 0), word("b", 3), quoted("'c'", 4))
	for _, s := range []string{"'", "'a", "'a b", "'a\nb'", "'\n'", `'\`, `'\'`, `'a\'`, `'\x'`, `'\N'`, `'\r'`, `'\0'`, "'\\\n'", `'\ '`, `'\\\'`, "'a\n", "'" + strings.Repeat("x", 65535), "'" + strings.Repeat(`\\`, 32767) + "x"} {
		wantWrong(t, s, 0, api.ErrSyntax)
		if len(s) > 100 {
			continue
		}
		wantWrong(t, "x "+s, 2, api.ErrSyntax)
		wantWrong(t, "''"+s, 2, api.ErrSyntax)
		wantWrong(t, "\n (a)"+s, 5, api.ErrSyntax)
	}
}

func TestLexSigns(t *testing.T) {
	if n := len(allSigns()); n != 36 {
		t.Error(n)
	}
	for _, s := range allSigns() {
		wantTokens(t, s, sign(s, 0))
		wantTokens(t, "a"+s+"b", word("a", 0), sign(s, 1), word("b", len(s)+1))
		wantTokens(t, "1"+s+"2", number("1", 0), sign(s, 1), number("2", len(s)+1))
		wantTokens(t, "''"+s+"''", quoted("''", 0), sign(s, 2), quoted("''", len(s)+2))
		for _, other := range allSigns() {
			wantTokens(t, s+" "+other, sign(s, 0), sign(other, len(s)+1))
		}
	}
}

func TestLexSignsAreTheLongest(t *testing.T) {
	for s, want := range map[string]string{
		"<-[]-": "<-[ ]-", "<-[]->": "<-[ ]->", "<~[]~": "<~[ ]~", "~[]~>": "~[ ]~>", "-[]-": "-[ ]-", "-[]->": "-[ ]->", "<-->": "<- ->", "<->": "<->", "<->>": "<-> >", "<<->": "< <->", "<-[>": "<-[ >", "<-]": "<- ]", "<~>": "<~ >", "<~~>": "<~ ~>", "<~]~>": "<~ ]~>", "~~": "~ ~", "~>>": "~> >", "-->": "- ->", "---": "- - -", "->>": "-> >", ">-": "> -", "]]->": "] ]->", "]--": "]- -", "]-->": "]- ->", "]~~>": "]~ ~>", "]-[": "]- [", "]->->": "]-> ->", "[-[": "[ -[", "[[": "[ [", "-[-[": "-[ -[", "<=>": "<= >", "<>=": "<> =", "<<=": "< <=", ">>=": "> >=", "=<": "= <", "=>": "= >", "==": "= =", ">=<": ">= <", "<>>": "<> >", "><": "> <", "!=": "! =", "<-=": "<- =", "<=-": "<= -", "**": "* *", "++": "+ +", "||": "| |", "&&": "& &", "::": ": :", "()": "( )", "{}": "{ }", "(-)": "( - )", "->->": "-> ->", "<-<-": "<- <-", "<-<->": "<- <->", "<-><-": "<-> <-", "<~[]~>]->": "<~[ ]~> ]->",
	} {
		wantTexts(t, s, strings.Split(want, " ")...)
	}
}

// TestLexOfEachByte: each byte there is, alone, and behind and ahead of others.
func TestLexOfEachByte(t *testing.T) {
	for c := range 256 {
		s := string([]byte{byte(c)})
		switch {
		case strings.Contains(letters, s):
			wantTokens(t, s, word(s, 0))
			wantTokens(t, "a"+s+"9", word("a"+s+"9", 0))
		case strings.Contains(digits, s):
			wantTokens(t, s, number(s, 0))
			wantTokens(t, "a"+s+"9", word("a"+s+"9", 0))
		case strings.Contains(alone, s):
			wantTokens(t, s, sign(s, 0))
			wantTokens(t, "a"+s+"9", word("a", 0), sign(s, 1), number("9", 2))
		case strings.Contains(spaces, s):
			wantTokens(t, s)
			wantTokens(t, "a"+s+"9", word("a", 0), number("9", 2))
		default: // a quote alone is no quoted text
			wantWrong(t, s, 0, api.ErrSyntax)
			wantWrong(t, "a"+s+"9", 1, api.ErrSyntax)
			wantWrong(t, " -> "+s, 4, api.ErrSyntax)
			wantWrong(t, "12"+s, 2, api.ErrSyntax)
		}
	}
}

// The first that is none is told, whatever is wrong behind it.
func TestLexTellsTheFirst(t *testing.T) {
	long := strings.Repeat("w", 41)
	for s, at := range map[string]int{
		"$": 0, "a .": 2, "a.b": 1, "\u00e4": 0, "a\u00e4": 1, "WHERE \"x\"": 6, "a;": 1, "a # b": 2, "/* */": 0, "a@": 1, "^": 0, "`a`": 0, `\`: 0, "\x00": 0, "\xff": 0,
		"$ 'a": 0, "'a $": 0, "a $ " + long: 2, long + " $": 0, "' " + long: 0, "1.5.": 1, "a 'b' 'c": 6, "->$->": 2, "<-[$": 3,
	} {
		wantWrong(t, s, at, api.ErrSyntax)
		wantWrong(t, s+"\x80", at, api.ErrSyntax)
		wantWrong(t, "\t(x)\n"+s, at+5, api.ErrSyntax)
	}
}

func TestLexLimit(t *testing.T) {
	for _, piece := range []string{" ", "(", "a", "1", "'", "$", "\n", "\xff", "a ", "<-[", "'x'", "x.y"} {
		full := strings.Repeat(piece, 65536/len(piece)+1)
		for _, n := range []int{65537, 65538} {
			wantWrong(t, full[:65536]+strings.Repeat(" ", n-65536), 0, api.ErrLimit)
			wantWrong(t, strings.Repeat(" ", n-65536)+full[:65536], 0, api.ErrLimit)
		}
		wantWrong(t, strings.Repeat(piece, 1<<20), 0, api.ErrLimit)
		if _, _, e := Lex(full[:65536]); e == api.ErrLimit {
			t.Errorf("%q: %v", piece, e)
		}
	}
	wantTokens(t, strings.Repeat(" ", 65536))
	wantTokens(t, strings.Repeat(" ", 65535)+"a", word("a", 65535))
	wantTokens(t, "a"+strings.Repeat("\n", 65535), word("a", 0))
	wantWrong(t, strings.Repeat(" ", 65535)+"$", 65535, api.ErrSyntax)
	l, at, e := Lex(strings.Repeat("(", 65536))
	if len(l) != 65536 || at != 0 || e != api.OK || l[65535] != sign("(", 65535) {
		t.Errorf("%d %d %v", len(l), at, e)
	}
}

// Whoever was told tokens may write over them.
func TestLexTellsNewTokens(t *testing.T) {
	l, _, _ := Lex("(a)")
	l[0], l[1] = word("b", 7), sign("]", 9)
	wantTokens(t, "(a)", sign("(", 0), word("a", 1), sign(")", 2))
}

func TestText(t *testing.T) {
	for _, x := range []struct {
		l    []Token
		want string
	}{
		{nil, ""}, {[]Token{}, ""},
		{[]Token{word("a", 0)}, "a"}, {[]Token{sign("->", 9)}, "->"}, {[]Token{quoted("' '", 0)}, "' '"},
		{[]Token{word("a", 0), word("b", 1)}, "a b"}, {[]Token{number("1", 5), number("2", 5), number("3", 5)}, "1 2 3"},
		{[]Token{sign("<", 0), sign("-", 1), sign("[", 2)}, "< - ["},
		// Not all of these are told by Lex: their Texts are taken as they are.
		{[]Token{{}}, ""}, {[]Token{{}, {}}, " "}, {[]Token{{}, {}, {}}, "  "}, {[]Token{{}, word("a", 0), {}}, " a "}, {[]Token{{Kind: -1, Text: "$\xff\x00", At: -5}, {Kind: 99, Text: " x "}}, "$\xff\x00  x "},
		{slices.Repeat([]Token{word("ab", 0)}, 50000), strings.Repeat("ab ", 49999) + "ab"},
	} {
		was := slices.Clone(x.l)
		if got := Text(x.l); got != x.want {
			t.Errorf("%v: %.80q, not %.80q", brief(x.l), got, x.want)
		}
		if !slices.Equal(x.l, was) {
			t.Errorf("%v: written over", brief(was))
		}
	}
}

func TestTextOfLex(t *testing.T) {
	for s, want := range map[string]string{
		"": "", " \n": "", "(a)-[e]->(b)": "( a ) -[ e ]-> ( b )", "\t( a\n)\r": "( a )", "x='a  b'": "x = 'a  b'", "3p-1 12p": "3p-1 12 p", "a<-1": "a <- 1", "a< -1": "a < - 1", "WHEREx WHERE": "WHEREx WHERE", "]->]~>]-]~]": "]-> ]~> ]- ]~ ]",
	} {
		l, _, _ := Lex(s)
		if got := Text(l); got != want {
			t.Errorf("%q: %q, not %q", s, got, want)
		}
		wantAgain(t, l)
	}
}
