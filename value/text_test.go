package value

import (
	"math"
	"math/big"
	"regexp"
	"strconv"
	"strings"
	"testing"

	"bridleway/api"
)

var written = []struct {
	s string
	v api.Value
}{
	{"null", api.Value{}}, {"false", no}, {"true", yes},
	{"0", intOf(0)}, {"1", intOf(1)}, {"-1", intOf(-1)}, {"10", intOf(10)}, {"-120", intOf(-120)}, {"9223372036854775807", intOf(math.MaxInt64)}, {"-9223372036854775808", intOf(math.MinInt64)},
	{"3p-1", floatOf(1.5)}, {"-3p-1", floatOf(-1.5)}, {"5p1", floatOf(10)}, {"1p0", floatOf(1)}, {"0p0", floatOf(0)}, {"-0p0", floatOf(negativeZero)}, {"inf", floatOf(math.Inf(1))}, {"-inf", floatOf(math.Inf(-1))}, {"nan", nan()},
	{"9007199254740991p971", floatOf(math.MaxFloat64)}, {"-1p-1074", floatOf(-math.SmallestNonzeroFloat64)}, {"-9007199254740991p-1074", floatOf(-9007199254740991 * 0x1p-1074)},
	{"''", textOf("")}, {"'a'", textOf("a")}, {"'null'", textOf("null")}, {"'1'", textOf("1")}, {`'it\'s'`, textOf("it's")}, {`'\\'`, textOf(`\`)}, {`'\\n'`, textOf(`\n`)}, {`'\n'`, textOf("\n")}, {`'\'\\\n\''`, textOf("'\\\n'")},
	{"'\r\t\"\x00\x7f\x80\xff'", textOf("\r\t\"\x00\x7f\x80\xff")}, {"'\u00e9'", textOf("\u00e9")},
}

func TestText(t *testing.T) {
	for _, x := range written {
		if s, e := Text(x.v); s != x.s || e != api.OK {
			t.Errorf("%#v: %q %v, not %q", x.v, s, e, x.s)
		}
	}
	for _, v := range wrongs() {
		if s, e := Text(v); s != "" || e != api.ErrArg {
			t.Errorf("%#v: %q %v", v, s, e)
		}
	}
}

func TestTextOfEachByte(t *testing.T) {
	for c := range 256 {
		s := string([]byte{byte(c)})
		want := "'" + s + "'"
		switch c {
		case '\'', '\\':
			want = `'\` + s + `'`
		case '\n':
			want = `'\n'`
		}
		if got, e := Text(textOf(s)); got != want || e != api.OK {
			t.Errorf("%q: %q %v", s, got, e)
		}
	}
}

func checkRead(t *testing.T, s string, want api.Value, size int) {
	t.Helper()
	if v, n, ok := Read(s); !exactly(v, want) || n != size || ok != (size > 0) {
		t.Errorf("%.60q: %#v %d %v, not %#v %d", s, v, n, ok, want, size)
	}
}

func TestRead(t *testing.T) {
	for _, x := range written {
		for _, behind := range []string{"", " ", ")", "x", "'", "\\", "\n", "\x00", "\xff", "-", ".", ","} {
			checkRead(t, x.s+behind, x.v, len(x.s))
		}
	}
}

func TestReadIsTheLongest(t *testing.T) {
	for _, x := range []struct {
		s    string
		want api.Value
		size int
	}{
		{"12p", intOf(12), 2}, {"12p0", intOf(12), 2}, {"12p1", intOf(12), 2}, {"3p", intOf(3), 1}, {"3p-", intOf(3), 1}, {"3p-0", intOf(3), 1}, {"3px", intOf(3), 1}, {"3p+1", intOf(3), 1}, {"3p-1-1", floatOf(1.5), 4}, {"3p-1p1", floatOf(1.5), 4},
		{"007", intOf(0), 1}, {"00", intOf(0), 1}, {"0p1", intOf(0), 1}, {"0p-0", intOf(0), 1}, {"0p01", floatOf(0), 3}, {"-0p00", floatOf(negativeZero), 4}, {"1p01", floatOf(1), 3}, {"01p0", intOf(0), 1}, {"1-1", intOf(1), 1}, {"1.5", intOf(1), 1}, {"1e5", intOf(1), 1}, {"0x1p0", intOf(0), 1}, {"1_0", intOf(1), 1},
		{"1p1023", floatOf(0x1p1023), 6}, {"1p1024", floatOf(0x1p102), 5}, {"1p10230", floatOf(0x1p1023), 6}, {"3p-1074", floatOf(3 * 0x1p-1074), 7}, {"3p-1075", floatOf(3 * 0x1p-107), 6}, {"1p-10740", floatOf(0x1p-1074), 7},
		{"9223372036854775808", intOf(922337203685477580), 18}, {"-9223372036854775809", intOf(-922337203685477580), 19}, {"92233720368547758070", intOf(math.MaxInt64), 19}, {"-92233720368547758080", intOf(math.MinInt64), 20},
		{"9007199254740993p0", intOf(9007199254740993), 16}, {"9223372036854775807p0", intOf(math.MaxInt64), 19},
		{"nanx", nan(), 3}, {"nan0", nan(), 3}, {"nannull", nan(), 3}, {"infinity", floatOf(math.Inf(1)), 3}, {"-info", floatOf(math.Inf(-1)), 4}, {"nulls", api.Value{}, 4}, {"truefalse", yes, 4}, {"falsetrue", no, 5}, {"true'", yes, 4},
		{"'a''b'", textOf("a"), 3}, {"''''", textOf(""), 2}, {`'\\'n'`, textOf(`\`), 4}, {"'a'\n", textOf("a"), 3}, {`'a'\`, textOf("a"), 3},
		{strings.Repeat("1", 100000), intOf(1111111111111111111), 19}, {strings.Repeat("0", 100000), intOf(0), 1}, {"1p1" + strings.Repeat("0", 100000), floatOf(0x1p1000), 6}, {"'" + strings.Repeat("x", 100000) + "'x'", textOf(strings.Repeat("x", 100000)), 100002},
	} {
		checkRead(t, x.s, x.want, x.size)
	}
}

func TestReadOfNoValue(t *testing.T) {
	for _, s := range []string{
		"", " ", "-", "--", "--1", "-0", "-00", "-05", "-0p1", "-01", "+1", "+inf", ".5", "p", "p0", "-p0", "e1", "_1", " 1", "\t1", "\n1", "- 1", "\u0661", "\uff11",
		"x", "n", "nul", "nu ll", "na", "-nan", "NaN", "NULL", "Null", "in", "-in", "Inf", "INF", "- inf", "tru", "True", "TRUE", "fals", "False", "f", "t", "yes", "\x00", "\xff", "\"a\"", "`a`", "\\", "\\'a'",
		"'", "'a", "'\n'", "'a\nb'", "'\\", "'\\'", "'a\\'", "'\\x'", "'\\r'", "'\\N'", "'\\0'", "'\\\n'", "'\\ '", `'\\\'`, "'\\x", "'" + strings.Repeat("x", 100000), "'" + strings.Repeat(`\\`, 100000) + `\'`,
		strings.Repeat("-", 100000), strings.Repeat("p", 100000), "-" + strings.Repeat("0", 100000),
	} {
		checkRead(t, s, api.Value{}, 0)
	}
}

func TestWhatIsWrittenIsRead(t *testing.T) {
	var all strings.Builder
	for c := range 256 {
		all.WriteByte(byte(c))
	}
	l := append(values(), textOf(all.String()), textOf(strings.Repeat(all.String(), 300)))
	for c := range 256 {
		for d := range 256 {
			l = append(l, textOf(string([]byte{byte(c), byte(d)})))
		}
	}
	for _, n := range manyInts() {
		l = append(l, intOf(n), floatOf(float64(n)), floatOf(1/(float64(n)+0.5)))
	}
	for _, v := range l {
		s, e := Text(v)
		if e != api.OK {
			t.Errorf("%#v: %v", v, e)
		}
		checkRead(t, s, v, len(s))
	}
}

var (
	wordShape   = regexp.MustCompile(`^(null|false|true|-?inf|nan)$`)
	intShape    = regexp.MustCompile(`^(0|-?[1-9][0-9]*)$`)
	floatShape  = regexp.MustCompile(`^-?(0p0|([1-9][0-9]*)?[13579]p(0|-?[1-9][0-9]*))$`)
	quotedShape = regexp.MustCompile(`^'([^'\\\n]|\\[\\'n])*'$`)
)

// isText tells whether s is a value's text, by its shape and its number.
func isText(s string) bool {
	if intShape.MatchString(s) {
		n, _ := new(big.Int).SetString(s, 10)
		return n.IsInt64()
	}
	if floatShape.MatchString(s) {
		m, e, _ := strings.Cut(s, "p")
		n, err := strconv.Atoi(e)
		whole, _ := new(big.Float).SetPrec(1000).SetString(m)
		exact := new(big.Float).SetMantExp(whole, n)
		f, _ := exact.Float64()
		return err == nil && !math.IsInf(f, 0) && big.NewFloat(f).Cmp(exact) == 0
	}
	return wordShape.MatchString(s) || quotedShape.MatchString(s)
}

func checkLongest(t *testing.T, s string) {
	t.Helper()
	size := len(s)
	for size > 0 && !isText(s[:size]) {
		size--
	}
	v, n, ok := Read(s)
	if n != size || ok != (size > 0) || !ok && !isNull(v) {
		t.Errorf("%q: %#v %d %v, not %d", s, v, n, ok, size)
	}
	if back, e := Text(v); ok && (back != s[:size] || e != api.OK) {
		t.Errorf("%q: %#v is %q %v", s, v, back, e)
	}
}

func TestReadOfTextsThatAreNearlyRight(t *testing.T) {
	pieces := []string{"", "-", "0", "1", "2", "9", "p", "n", "inf", "'", "\\", "\n", "x", " "}
	for _, x := range written {
		for i := range len(x.s) + 1 {
			for _, c := range pieces {
				checkLongest(t, x.s[:i]+c+x.s[i:])
				checkLongest(t, x.s[:i]+c+x.s[min(i+1, len(x.s)):])
			}
		}
	}
}

func TestReadOfShortTexts(t *testing.T) {
	letters := []string{"-", "0", "1", "2", "p", "'", "\\", "n", "\n", "x"}
	l := []string{""}
	for range 5 {
		var longer []string
		for _, s := range l {
			for _, c := range letters {
				checkLongest(t, s+c)
				longer = append(longer, s+c)
			}
		}
		l = longer
	}
}
