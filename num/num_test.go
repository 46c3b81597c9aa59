package num

import (
	"math"
	"math/big"
	"regexp"
	"strconv"
	"strings"
	"testing"

	"bridleway/api"
)

var negativeZero = math.Copysign(0, -1)

// rising is floats in their order, with neighbours wherever the kind of float changes.
var rising = []float64{
	math.Inf(-1), -math.MaxFloat64, -1 << 63, -1 << 53, -10, -1.5, math.Nextafter(-1, -2), -1, math.Nextafter(-1, 0), -0.1,
	-0x1p-1022, -0x1p-1022 + 0x1p-1074, -2 * math.SmallestNonzeroFloat64, -math.SmallestNonzeroFloat64, negativeZero,
	0, math.SmallestNonzeroFloat64, 2 * math.SmallestNonzeroFloat64, 0x1p-1022 - 0x1p-1074, 0x1p-1022,
	0.1, math.Nextafter(1, 0), 1, math.Nextafter(1, 2), 1.5, 10, 1 << 53, 1<<53 + 2, 1 << 63, math.MaxFloat64, math.Inf(1),
}

// nans is of both signs, quiet and signalling, with the least and the greatest bits.
var nans = []uint64{
	0x7FF0000000000001, 0x7FF7FFFFFFFFFFFF, 0x7FF8000000000000, 0x7FF8000000000001, 0x7FF8000000000002, 0x7FFFFFFFFFFFFFFF,
	0xFFF0000000000001, 0xFFF7FFFFFFFFFFFF, 0xFFF8000000000000, 0xFFF8000000000001, 0xFFF8000000000055, 0xFFFFFFFFFFFFFFFF,
}

// many is bits that are spread over all floats, the same ones each time.
func many(n int) []uint64 {
	var l []uint64
	for i := range uint64(n) {
		x := (i + 1) * 0x9E3779B97F4A7C15
		x = (x ^ x>>29) * 0xBF58476D1CE4E5B9
		l = append(l, x^x>>32)
	}
	return l
}

// floats is rising, and many others that are no nans.
func floats() []float64 {
	l := append([]float64{}, rising...)
	for _, b := range many(20000) {
		if f := math.Float64frombits(b); f == f {
			l = append(l, f)
		}
		// A float of any bits is hardly ever one with a short M, nor one below the normal ones.
		if f := math.Float64frombits(b &^ (1<<40 - 1)); f == f {
			l = append(l, f)
		}
		l = append(l, math.Float64frombits(b&^(0x7FF<<52)))
	}
	for e := -1074; e <= 1023; e++ {
		l = append(l, math.Ldexp(1, e), -math.Ldexp(1, e))
	}
	return l
}

func same(a, b float64) bool { return math.Float64bits(a) == math.Float64bits(b) }

func TestCanon(t *testing.T) {
	for _, b := range nans {
		if got := math.Float64bits(Canon(math.Float64frombits(b))); got != 0x7FF8000000000001 {
			t.Errorf("%x: %x", b, got)
		}
	}
	for _, f := range floats() {
		if !same(Canon(f), f) {
			t.Errorf("%x: %x", f, Canon(f))
		}
	}
}

func TestOrder(t *testing.T) {
	for i, a := range rising {
		for k, b := range rising {
			want := 0
			if i < k {
				want = -1
			} else if i > k {
				want = 1
			}
			if got := Order(a, b); got != want {
				t.Errorf("%v %v: %d", a, b, got)
			}
		}
	}
}

func TestOrderOfNans(t *testing.T) {
	for _, b := range nans {
		nan := math.Float64frombits(b)
		for _, c := range nans {
			if got := Order(nan, math.Float64frombits(c)); got != 0 {
				t.Errorf("%x %x: %d", b, c, got)
			}
		}
		for _, f := range rising {
			if Order(f, nan) != -1 || Order(nan, f) != 1 {
				t.Errorf("%v %x: %d %d", f, b, Order(f, nan), Order(nan, f))
			}
		}
	}
}

func TestOrderIsThatOfNumbers(t *testing.T) {
	l := floats()
	for i, a := range l[1:] {
		b := l[i]
		if got := Order(a, b); a < b && got != -1 || a > b && got != 1 || a == b && a != 0 && got != 0 {
			t.Errorf("%x %x: %d", a, b, got)
		}
	}
}

func TestKey(t *testing.T) {
	for _, x := range []struct {
		f    float64
		want uint64
	}{
		{math.Inf(-1), 0x000FFFFFFFFFFFFF},
		{-math.MaxFloat64, 0x0010000000000000},
		{-1, 0x400FFFFFFFFFFFFF},
		{-math.SmallestNonzeroFloat64, 0x7FFFFFFFFFFFFFFE},
		{negativeZero, 0x7FFFFFFFFFFFFFFF},
		{0, 0x8000000000000000},
		{math.SmallestNonzeroFloat64, 0x8000000000000001},
		{1, 0xBFF0000000000000},
		{math.MaxFloat64, 0xFFEFFFFFFFFFFFFF},
		{math.Inf(1), 0xFFF0000000000000},
	} {
		if got := Key(x.f); got != x.want {
			t.Errorf("%v: %x, not %x", x.f, got, x.want)
		}
	}
	for _, b := range nans {
		if got := Key(math.Float64frombits(b)); got != math.MaxUint64 {
			t.Errorf("%x: %x", b, got)
		}
	}
}

func TestKeysAreInOrder(t *testing.T) {
	l := floats()
	for i, a := range l[1:] {
		b := l[i]
		if Key(a) < Key(b) != (Order(a, b) < 0) || Key(a) == Key(b) != (Order(a, b) == 0) {
			t.Errorf("%x %x: keys %x %x, order %d", a, b, Key(a), Key(b), Order(a, b))
		}
		// No float is between neighbours, and no key; but from -0 Nextafter leads past +0.
		if next := math.Nextafter(a, math.Inf(1)); a != 0 && next != 0 && !math.IsInf(a, 1) && Key(next) != Key(a)+1 {
			t.Errorf("%x: keys %x %x", a, Key(a), Key(next))
		}
	}
}

func TestOfKey(t *testing.T) {
	for _, f := range floats() {
		if g, ok := OfKey(Key(f)); !ok || !same(f, g) {
			t.Errorf("%x: %x %v", f, g, ok)
		}
	}
	for _, b := range nans {
		g, ok := OfKey(Key(math.Float64frombits(b)))
		if !ok || math.Float64bits(g) != 0x7FF8000000000001 {
			t.Errorf("%x: %x %v", b, math.Float64bits(g), ok)
		}
	}
	for _, k := range many(20000) {
		if f, ok := OfKey(k); ok && Key(f) != k {
			t.Errorf("%x: %x, whose key is %x", k, f, Key(f))
		}
	}
}

func TestKeysOfNoFloat(t *testing.T) {
	wrong := []uint64{
		0, 1, 0x0007FFFFFFFFFFFE, 0x0007FFFFFFFFFFFF, 0x000FFFFFFFFFFFFE,
		0xFFF0000000000001, 0xFFF8000000000000, 0xFFF8000000000001, 0xFFFFFFFFFFFFFFFE,
	}
	for _, k := range many(1000) {
		wrong = append(wrong, k%0x000FFFFFFFFFFFFF, 0xFFF0000000000001+k%0x000FFFFFFFFFFFFE)
	}
	for _, k := range wrong {
		if f, ok := OfKey(k); !same(f, 0) || ok {
			t.Errorf("%x: %x %v", k, f, ok)
		}
	}
}

// texts is of each kind of float.
var texts = []struct {
	s string
	f float64
}{
	{"inf", math.Inf(1)}, {"-inf", math.Inf(-1)},
	{"0p0", 0}, {"-0p0", negativeZero},
	{"1p0", 1}, {"-1p0", -1}, {"3p0", 3}, {"-3p0", -3},
	{"1p1", 2}, {"5p1", 10}, {"-5p1", -10}, {"125p3", 1000},
	{"1p-1", 0.5}, {"3p-1", 1.5}, {"-3p-1", -1.5}, {"3602879701896397p-55", 0.1},
	{"9007199254740991p0", 1<<53 - 1}, {"1p53", 1 << 53}, {"4503599627370497p1", 1<<53 + 2}, {"1p63", 1 << 63}, {"-1p63", -1 << 63},
	{"9007199254740991p971", math.MaxFloat64}, {"-9007199254740991p971", -math.MaxFloat64}, {"1p1023", 0x1p1023},
	{"1p-1022", 0x1p-1022}, {"4503599627370495p-1074", 0x1p-1022 - 0x1p-1074},
	{"1p-1074", math.SmallestNonzeroFloat64}, {"-1p-1074", -math.SmallestNonzeroFloat64}, {"1p-1073", 2 * math.SmallestNonzeroFloat64}, {"3p-1074", 3 * math.SmallestNonzeroFloat64},
}

func TestText(t *testing.T) {
	for _, x := range texts {
		if got := Text(x.f); got != x.s {
			t.Errorf("%x: %s, not %s", x.f, got, x.s)
		}
	}
	for _, b := range nans {
		if got := Text(math.Float64frombits(b)); got != "nan" {
			t.Errorf("%x: %s", b, got)
		}
	}
}

func TestParse(t *testing.T) {
	for _, x := range texts {
		if f, e := Parse(x.s); !same(f, x.f) || e != api.OK {
			t.Errorf("%s: %x %v", x.s, f, e)
		}
	}
	if f, e := Parse("nan"); math.Float64bits(f) != 0x7FF8000000000001 || e != api.OK {
		t.Errorf("nan: %x %v", math.Float64bits(f), e)
	}
}

var shape = regexp.MustCompile(`^-?(0p0|([1-9][0-9]*)?[13579]p(0|-?[1-9][0-9]*))$`)

// number is what a text of that shape says, reckoned without floats.
func number(s string) *big.Rat {
	m, e, _ := strings.Cut(s, "p")
	r, _ := new(big.Rat).SetString(m)
	n, _ := strconv.Atoi(e)
	power := new(big.Rat).SetInt(new(big.Int).Lsh(big.NewInt(1), uint(max(n, -n))))
	if n < 0 {
		power.Inv(power)
	}
	return r.Mul(r, power)
}

func TestTextIsExact(t *testing.T) {
	for i, f := range floats() {
		if math.IsInf(f, 0) {
			continue
		}
		s := Text(f)
		if !shape.MatchString(s) || strings.HasPrefix(s, "-") != math.Signbit(f) {
			t.Errorf("%x: %s", f, s)
			continue
		}
		if g, e := Parse(s); !same(f, g) || e != api.OK {
			t.Errorf("%x: %s: %x %v", f, s, g, e)
		}
		if i%10 == 0 && number(s).Cmp(new(big.Rat).SetFloat64(f)) != 0 {
			t.Errorf("%x: %s", f, s)
		}
	}
}

func TestTextsOfNoFloat(t *testing.T) {
	for _, s := range []string{
		"", "-", "p", "-p", "p0", "-p0", "1p", "1", "-1", "1.5", "1e1", "0x1p0", "1p1p1", "1pp1",
		"2p0", "-2p0", "10p0", "6p-2", "0p1", "0p-1", "-0p1", "0", "-0",
		"01p0", "00p0", "-01p0", "1p00", "1p01", "1p-01", "1p-0", "0p-0", "1p+1", "1p+0", "+1p0", "+0p0", "--1p0", "1p--1", "-+1p0",
		"Inf", "INF", "+inf", "--inf", "inf ", "infinity", "in", "NaN", "NAN", "-nan", "+nan", "nan0",
		" 1p0", "1p0 ", "1 p0", "1p 0", "1p0\n", "1p0\x00", "1_1p0", "1p1_0", "1P0", "\xff", "1p\xff", "\u0661p0",
		"1p1024", "3p1023", "-1p1024", "9007199254740991p972", "1p-1075", "3p-1075", "-1p-1075", "1p-1076", "1p-2000",
		"9007199254740993p0", "9007199254740993p-1074", "9007199254740991p-1075", "18014398509481983p0", "18446744073709551615p0", "18446744073709551617p0", "36893488147419103233p0",
		"1p32768", "1p65536", "1p-65536", "1p4294967296", "1p9223372036854775807", "1p-9223372036854775808", "1p18446744073709551616", "1p99999999999999999999",
		strings.Repeat("9", 100000) + "p0", strings.Repeat("0", 100000) + "1p0", "1p" + strings.Repeat("0", 100000), "1p-" + strings.Repeat("9", 100000), strings.Repeat("-", 100000), strings.Repeat("p", 100000),
	} {
		if f, e := Parse(s); !same(f, 0) || e != api.ErrSyntax {
			t.Errorf("%.40q: %x %v", s, f, e)
		}
	}
}

func TestOneTextOfEachFloat(t *testing.T) {
	for _, x := range texts {
		for i := range len(x.s) + 1 {
			for _, c := range []string{"", "-", "+", "0", "1", "2", "5", "p", "n", " "} {
				for _, s := range []string{x.s[:i] + c + x.s[i:], x.s[:i] + c + x.s[min(i+1, len(x.s)):]} {
					checkParsed(t, s)
				}
			}
		}
	}
}

// checkParsed holds Parse of a text against what its shape and its number say.
func checkParsed(t *testing.T, s string) {
	want := s == "inf" || s == "-inf" || s == "nan" || shape.MatchString(s) && isFloat(s)
	f, e := Parse(s)
	if want && (e != api.OK || Text(f) != s) || !want && (e != api.ErrSyntax || !same(f, 0)) {
		t.Errorf("%q: %x %v", s, f, e)
	}
}

// isFloat tells whether a text of that shape says a number that a float64 holds exactly.
func isFloat(s string) bool {
	if _, e, _ := strings.Cut(s, "p"); len(e) > len("-1074") {
		return false
	}
	r := number(s)
	f, _ := r.Float64()
	return !math.IsInf(f, 0) && new(big.Rat).SetFloat64(f).Cmp(r) == 0
}

func TestAgainst(t *testing.T) {
	for _, x := range []struct {
		n    int64
		f    float64
		want int
	}{
		{0, 0, 0}, {0, negativeZero, 0}, {1, 1, 0}, {-1, -1, 0}, {1, negativeZero, 1}, {-1, 0, -1},
		{0, math.SmallestNonzeroFloat64, -1}, {0, -math.SmallestNonzeroFloat64, 1},
		{2, 1.5, 1}, {1, 1.5, -1}, {-1, -1.5, 1}, {-2, -1.5, -1}, {-1, -0.5, -1}, {0, -0.5, 1}, {0, 0.5, -1}, {1, 0.5, 1},
		{1<<53 + 1, 1 << 53, 1}, {1<<53 + 1, 1<<53 + 2, -1}, {1 << 53, 1 << 53, 0}, {-1<<53 - 1, -1 << 53, -1}, {-1<<53 - 1, -1<<53 - 2, 1},
		{math.MaxInt64, 1 << 63, -1}, {math.MaxInt64, 1<<63 - 1024, 1}, {math.MaxInt64 - 1023, 1<<63 - 1024, 0}, {math.MinInt64, 1 << 63, -1},
		{math.MinInt64, -1 << 63, 0}, {math.MinInt64 + 1, -1 << 63, 1}, {math.MinInt64, -1<<63 - 2048, 1}, {math.MinInt64, -1<<63 + 1024, -1}, {math.MaxInt64, -1 << 63, 1},
		{math.MaxInt64, math.MaxFloat64, -1}, {math.MinInt64, -math.MaxFloat64, 1},
		{math.MaxInt64, math.Inf(1), -1}, {math.MinInt64, math.Inf(-1), 1}, {0, math.Inf(1), -1}, {0, math.Inf(-1), 1},
	} {
		if got, ok := Against(x.n, x.f); got != x.want || !ok {
			t.Errorf("%d %x: %d %v, not %d", x.n, x.f, got, ok, x.want)
		}
	}
}

func TestAgainstNans(t *testing.T) {
	for _, b := range nans {
		for _, n := range []int64{math.MinInt64, -1, 0, 1, math.MaxInt64} {
			if got, ok := Against(n, math.Float64frombits(b)); got != 0 || ok {
				t.Errorf("%d %x: %d %v", n, b, got, ok)
			}
		}
	}
}

func TestAgainstIsExact(t *testing.T) {
	for i, b := range many(20000) {
		n := int64(b) >> (i % 64)
		// Floats near to n, which are often n rounded.
		near := float64(n)
		for _, f := range []float64{near, math.Nextafter(near, math.Inf(1)), math.Nextafter(near, math.Inf(-1)), near + 0.5, near - 0.5, -near} {
			want := new(big.Rat).SetInt64(n).Cmp(new(big.Rat).SetFloat64(f))
			if got, ok := Against(n, f); got != want || !ok {
				t.Errorf("%d %x: %d %v, not %d", n, f, got, ok, want)
			}
		}
	}
}
