package pack

import (
	"encoding/binary"
	"encoding/hex"
	"math"
	"math/big"
	"math/rand"
	"strings"
	"testing"

	"bridleway/api"
)

// numbers has the least and the greatest of one to eight bytes, and some between.
func numbers() []uint64 {
	l := []uint64{0, 2, 7, 127, 128, 300, math.MaxInt64, math.MaxInt64 + 1, math.MaxInt64 + 2, 0x0102030405060708, 0x8000000000000001}
	for i := range 8 {
		least := uint64(1) << (8 * i)
		l = append(l, least, least+1, least<<8-1, least<<8-2, least*0x80)
	}
	return l
}

// texts has lengths of zero to three bytes, and bytes of all sorts.
func texts() []string {
	return []string{
		"", "\x00", "\x01\x00", "a", "hi", "it's", "\xff\xfe", "\u00e9\u2028", "\x00\x00\x00",
		strings.Repeat("x", 255), strings.Repeat("\x00", 256), strings.Repeat("yz", 150), strings.Repeat("\xff", 65535), strings.Repeat("w", 65536),
	}
}

// numberRow is the bytes of n by the library's own big numbers.
func numberRow(n uint64) string {
	digits := new(big.Int).SetUint64(n).Bytes()
	return string(rune(len(digits))) + string(digits)
}

func textRow(s string) string { return numberRow(uint64(len(s))) + s }

// spare has the bytes of s, and room behind them that is filled.
func spare(s string) []byte {
	return []byte(s + strings.Repeat("#", 40))[:len(s)]
}

// checkPut holds what put answers behind some beginnings against row, and that nothing is shared.
func checkPut(t *testing.T, row string, put func(b []byte) []byte) {
	t.Helper()
	for _, begin := range []string{"", "x", "\x01", "some bytes"} {
		b := spare(begin)
		got := put(b)
		if string(got) != begin+row {
			t.Fatalf("behind %q: %x, not %x", begin, clip(string(got)), clip(begin+row))
		}
		for i := range got[:cap(got)] {
			got[:cap(got)][i] ^= 0xff
		}
		if all := string(b[:cap(b)]); !strings.HasPrefix(all, begin+"####") {
			t.Fatalf("what was handed in, or what lies behind it, is now %q", all)
		}
		if again := put(b); string(again) != begin+row {
			t.Fatalf("again behind %q: %x", begin, clip(string(again)))
		}
	}
	if got := put(nil); string(got) != row {
		t.Fatalf("behind nothing: %x, not %x", clip(string(got)), clip(row))
	}
}

func clip(s string) string { return s[:min(len(s), 40)] }

// checkRead holds what read answers of row, and of more, and of less, against what is wanted.
func checkRead[T comparable](t *testing.T, row string, want T, read func(b []byte) (T, int, bool)) {
	t.Helper()
	for _, behind := range []string{"", "\x00", "\x01", "z", "\xff\xff\xff\xff\xff\xff\xff\xff\xff", row} {
		b := []byte(row + behind)
		got, size, ok := read(b)
		if string(b) != row+behind {
			t.Fatalf("%x: changed", clip(row))
		}
		for i := range b {
			b[i] ^= 0xff
		}
		if got != want || size != len(row) || !ok {
			t.Fatalf("%x and %x: %v %d %v", clip(row), clip(behind), got, size, ok)
		}
	}
	for _, cut := range cuts(row) {
		checkNone(t, cut, read)
	}
}

// cuts is the beginnings of row but row; of a long one those near its ends.
func cuts(row string) []string {
	var l []string
	for i := range len(row) {
		if i < 20 || i > len(row)-20 {
			l = append(l, row[:i])
		}
	}
	return l
}

func checkNone[T comparable](t *testing.T, s string, read func(b []byte) (T, int, bool)) {
	t.Helper()
	var none T
	// What lies behind the end of the list is no part of it.
	for _, b := range [][]byte{[]byte(s), spare(s), append([]byte(s), make([]byte, 16)...)[:len(s)]} {
		if got, size, ok := read(b); got != none || size != 0 || ok {
			t.Fatalf("%x: %v %d %v", clip(s), got, size, ok)
		}
	}
}

// wrongNumbers are bytes of no number, whatever stands behind them: too many that follow, and more than the number takes.
func wrongNumbers() []string {
	var l []string
	for count := 9; count < 256; count++ {
		l = append(l, string([]byte{byte(count)})+strings.Repeat("\x01", 300))
		l = append(l, string([]byte{byte(count)})+strings.Repeat("\x00", 300))
	}
	for _, n := range numbers() {
		row := numberRow(n)
		for more := 1; more <= 8-int(row[0]); more++ {
			l = append(l, string([]byte{row[0] + byte(more)})+strings.Repeat("\x00", more)+row[1:])
		}
	}
	return l
}

// C1.

func TestNumberRows(t *testing.T) {
	for row, n := range map[string]uint64{
		"00": 0, "0101": 1, "017f": 127, "0180": 128, "01ff": 255, "020100": 256, "02012c": 300, "02ffff": 65535, "03010000": 65536,
		"080102030405060708": 0x0102030405060708, "087fffffffffffffff": math.MaxInt64, "088000000000000000": 1 << 63, "08ffffffffffffffff": math.MaxUint64,
	} {
		if got := hex.EncodeToString(Put(nil, n)); got != row {
			t.Errorf("%d: %s, not %s", n, got, row)
		}
	}
}

func TestNumbersThereAndBack(t *testing.T) {
	l := numbers()
	random := rand.New(rand.NewSource(3))
	for range 2000 {
		l = append(l, random.Uint64()>>random.Intn(64))
	}
	for _, n := range l {
		row := numberRow(n)
		checkPut(t, row, func(b []byte) []byte { return Put(b, n) })
		checkRead(t, row, n, Get)
	}
}

func TestNoNumber(t *testing.T) {
	checkNone(t, "", Get)
	for _, s := range []string{"\x01", "\x02\x01", "\x08\x01\x02\x03\x04\x05\x06\x07"} {
		checkNone(t, s, Get)
	}
	for _, s := range wrongNumbers() {
		checkNone(t, s, Get)
		checkNone(t, s+"abc", Get)
	}
	if n, size, ok := Get(nil); n != 0 || size != 0 || ok {
		t.Errorf("nil: %d %d %v", n, size, ok)
	}
}

// numberAt is the number whose bytes are a beginning of s, looked for among all that its beginnings may say.
func numberAt(s string) (n uint64, size int, ok bool) {
	for size := 1; size <= min(len(s), 9); size++ {
		n := new(big.Int).SetBytes([]byte(s[1:size])).Uint64()
		if numberRow(n) == s[:size] {
			return n, size, true
		}
	}
	return 0, 0, false
}

// someBytes are many short lists of bytes, those that are often said among them.
func someBytes() []string {
	l := []string{""}
	for i := range 1 << 16 {
		l = append(l, string([]byte{byte(i >> 8), byte(i)}))
	}
	random := rand.New(rand.NewSource(7))
	often := []byte{0, 1, 2, 3, 4, 7, 8, 9, 16, 17, 18, 19, 20, 0x7f, 0x80, 0xff}
	for range 100000 {
		b := make([]byte, random.Intn(12))
		for i := range b {
			b[i] = often[random.Intn(len(often))]
		}
		if len(b) > 1 && random.Intn(2) == 0 {
			b[1] = byte(random.Intn(10))
		}
		l = append(l, string(b))
	}
	return l
}

func TestGetOfAnyBytes(t *testing.T) {
	for _, s := range someBytes() {
		n, size, ok := Get([]byte(s))
		if wantN, wantSize, want := numberAt(s); n != wantN || size != wantSize || ok != want {
			t.Fatalf("%x: %d %d %v, not %d %d %v", s, n, size, ok, wantN, wantSize, want)
		}
	}
}

// C2.

func TestTextRows(t *testing.T) {
	for s, row := range map[string]string{"": "00", "\x00": "010100", "abc": "0103616263", "\u00e9": "0102c3a9", "\xff": "0101ff"} {
		if got := hex.EncodeToString(PutText(nil, s)); got != row {
			t.Errorf("%q: %s, not %s", s, got, row)
		}
	}
}

func TestTextsThereAndBack(t *testing.T) {
	for _, s := range texts() {
		row := textRow(s)
		checkPut(t, row, func(b []byte) []byte { return PutText(b, s) })
		checkRead(t, row, s, Text)
	}
}

func TestNoText(t *testing.T) {
	for _, s := range wrongNumbers() {
		checkNone(t, s, Text)
		checkNone(t, s+"abc", Text)
	}
	// Lengths that no list has, those that turn below 0 or round to a little one among them.
	for _, n := range []uint64{4, 256, 1 << 31, 1<<32 + 2, math.MaxInt64, 1 << 63, 1<<63 + 2, math.MaxUint64 - 1, math.MaxUint64} {
		checkNone(t, numberRow(n)+"abc", Text)
	}
	if s, size, ok := Text(nil); s != "" || size != 0 || ok {
		t.Errorf("nil: %q %d %v", s, size, ok)
	}
}

func TestTextOfAnyBytes(t *testing.T) {
	for _, b := range someBytes() {
		s, size, ok := Text([]byte(b))
		wantS, wantSize, want := textAt(b)
		if s != wantS || size != wantSize || ok != want {
			t.Fatalf("%x: %q %d %v, not %q %d %v", b, s, size, ok, wantS, wantSize, want)
		}
	}
}

// textAt looks for the text among all pieces of s.
func textAt(s string) (text string, size int, ok bool) {
	for size := 1; size <= len(s); size++ {
		for from := 1; from <= size; from++ {
			if textRow(s[from:size]) == s[:size] {
				return s[from:size], size, true
			}
		}
	}
	return "", 0, false
}

// C3.

var negativeZero = math.Copysign(0, -1)

func theNan() float64 { return math.Float64frombits(0x7FF8000000000001) }

func truth(n int64) api.Value    { return api.Value{Kind: api.Bool, N: n} }
func whole(n int64) api.Value    { return api.Value{Kind: api.Int, N: n} }
func float(f float64) api.Value  { return api.Value{Kind: api.Float, F: f} }
func textual(s string) api.Value { return api.Value{Kind: api.Text, S: s} }

// exact is a value as one that == holds against others by the bits of F.
type exact struct {
	kind int
	n    int64
	f    uint64
	s    string
}

func exactly(v api.Value) exact { return exact{v.Kind, v.N, math.Float64bits(v.F), v.S} }

func readValue(b []byte) (exact, int, bool) {
	v, size, ok := Value(b)
	return exactly(v), size, ok
}

// floats is in the order of their keys.
func floats() []float64 {
	return []float64{
		math.Inf(-1), -math.MaxFloat64, -1.5, -1, -0x1p-1022, -math.SmallestNonzeroFloat64, negativeZero,
		0, math.SmallestNonzeroFloat64, 0x1p-1022, 0.1, 1, 1.5, math.MaxFloat64, math.Inf(1), theNan(),
	}
}

func rightValues() []api.Value {
	l := []api.Value{{}, truth(0), truth(1)}
	for _, n := range numbers() {
		if n <= math.MaxInt64 {
			l = append(l, whole(int64(n)), whole(-int64(n)), whole(-int64(n)-1))
		}
	}
	for _, f := range floats() {
		l = append(l, float(f))
	}
	for _, s := range texts() {
		l = append(l, textual(s))
	}
	return l
}

// valueRow is the bytes of a right value; a number below 0 is turned round by taking it from -1.
func valueRow(v api.Value) string {
	switch v.Kind {
	case api.Bool:
		return "\x01" + numberRow(uint64(v.N))
	case api.Int:
		if v.N < 0 {
			return "\x12" + numberRow(uint64(-1-v.N))
		}
		return "\x02" + numberRow(uint64(v.N))
	case api.Float:
		return "\x03" + floatRow(v.F)
	case api.Text:
		return "\x04" + textRow(v.S)
	}
	return "\x00"
}

func floatRow(f float64) string {
	row := binary.BigEndian.AppendUint64(nil, math.Float64bits(f))
	switch {
	case math.IsNaN(f):
		return strings.Repeat("\xff", 8)
	case math.Signbit(f):
		for i := range row {
			row[i] ^= 0xff
		}
	default:
		row[0] += 0x80
	}
	return string(row)
}

func TestValueRows(t *testing.T) {
	for row, v := range map[string]api.Value{
		"00": {}, "0100": truth(0), "010101": truth(1),
		"0200": whole(0), "02012a": whole(42), "02020100": whole(256), "02087fffffffffffffff": whole(math.MaxInt64),
		"1200": whole(-1), "120101": whole(-2), "1201ff": whole(-256), "12020100": whole(-257), "12087fffffffffffffff": whole(math.MinInt64),
		"038000000000000000": float(0), "037fffffffffffffff": float(negativeZero), "03bff0000000000000": float(1), "03400fffffffffffff": float(-1),
		"03fff0000000000000": float(math.Inf(1)), "03000fffffffffffff": float(math.Inf(-1)), "03ffffffffffffffff": float(theNan()),
		"0400": textual(""), "0401026869": textual("hi"),
	} {
		if got, e := PutValue(nil, v); hex.EncodeToString(got) != row || e != api.OK {
			t.Errorf("%v: %x %v, not %s", v, got, e, row)
		}
	}
}

func TestValuesThereAndBack(t *testing.T) {
	for _, v := range rightValues() {
		row := valueRow(v)
		checkPut(t, row, func(b []byte) []byte {
			got, e := PutValue(b, v)
			if e != api.OK {
				t.Fatalf("%v: %v", v, e)
			}
			return got
		})
		checkRead(t, row, exactly(v), readValue)
	}
}

func TestPutValueRefuses(t *testing.T) {
	wrong := []api.Value{
		{Kind: -1}, {Kind: 5}, {Kind: 16}, {Kind: 18}, {Kind: 18, N: -1}, {Kind: 256}, {Kind: 258, N: 1}, {Kind: math.MaxInt}, {Kind: math.MinInt},
		{N: 1}, {F: 1}, {F: negativeZero}, {S: "a"},
		truth(2), truth(-1), truth(256), truth(math.MinInt64), {Kind: api.Bool, F: 1}, {Kind: api.Bool, N: 1, S: "a"},
		{Kind: api.Int, F: 1}, {Kind: api.Int, N: -1, S: "a"},
		{Kind: api.Float, N: 1}, {Kind: api.Float, F: 1, S: "a"}, {Kind: api.Text, N: 1}, {Kind: api.Text, S: "a", F: 1},
	}
	for _, b := range []uint64{0x7FF0000000000001, 0x7FF8000000000000, 0x7FF8000000000002, 0xFFF8000000000001, math.MaxUint64} {
		wrong = append(wrong, float(math.Float64frombits(b)))
	}
	for _, v := range wrong {
		checkPut(t, "", func(b []byte) []byte {
			got, e := PutValue(b, v)
			if e != api.ErrArg {
				t.Fatalf("%v: %v", v, e)
			}
			return got
		})
	}
}

func TestNoValue(t *testing.T) {
	for kind := range 256 {
		if kind > api.Text && kind != api.Int+16 {
			for _, behind := range []string{"", "\x00", "\x01\x01", "\x01\x02hi", "\xbf\xf8\x00\x00\x00\x00\x00\x00"} {
				checkNone(t, string([]byte{byte(kind)})+behind, readValue)
			}
		}
	}
	for _, kind := range []string{"\x01", "\x02", "\x12", "\x04"} {
		for _, s := range wrongNumbers() {
			checkNone(t, kind+s, readValue)
			checkNone(t, kind+s+"abc", readValue)
		}
		for _, n := range []uint64{1 << 63, 1<<63 + 1, math.MaxUint64 - 1, math.MaxUint64} {
			checkNone(t, kind+numberRow(n), readValue)
		}
	}
	for _, n := range []uint64{2, 3, 255, 256, 257, 1<<32 + 1, math.MaxInt64} {
		checkNone(t, "\x01"+numberRow(n), readValue)
	}
	checkNone(t, "\x04\x01\x02h", readValue)
	checkNone(t, "", readValue)
	if v, size, ok := Value(nil); v != (api.Value{}) || size != 0 || ok {
		t.Errorf("nil: %v %d %v", v, size, ok)
	}
}

// Keys that are no float's lie behind both infinities, but for that of the nans.
func TestNoFloat(t *testing.T) {
	for _, key := range []uint64{0, 1, 0x0007fffffffffffe, 0x000ffffffffffffe, 0xfff0000000000001, 0xfff8000000000000, 0xfff8000000000001, math.MaxUint64 - 1} {
		row := binary.BigEndian.AppendUint64([]byte{3}, key)
		checkNone(t, string(row), readValue)
	}
}

// valueAt looks for the value among those that any beginning of s may say.
func valueAt(s string) (v api.Value, size int, ok bool) {
	for size := 1; size <= len(s); size++ {
		for _, v := range saidBy(s[1:size]) {
			if valueRow(v) == s[:size] {
				return v, size, true
			}
		}
	}
	return api.Value{}, 0, false
}

func saidBy(s string) []api.Value {
	l := []api.Value{{}, truth(0), truth(1), float(theNan())}
	if len(s) == 8 {
		key := binary.BigEndian.Uint64([]byte(s))
		for _, f := range []float64{math.Float64frombits(key ^ 1<<63), math.Float64frombits(^key)} {
			if f == f {
				l = append(l, float(f))
			}
		}
	}
	if n, _, ok := numberAt(s); ok && n <= math.MaxInt64 {
		l = append(l, whole(int64(n)), whole(-1-int64(n)))
	}
	for from := range len(s) + 1 {
		l = append(l, textual(s[from:]))
	}
	return l
}

func TestValueOfAnyBytes(t *testing.T) {
	l := someBytes()
	// One byte of a right value's is another one.
	for _, v := range rightValues() {
		row := valueRow(v)
		for i := range min(len(row), 12) {
			for _, c := range []byte{0, 1, 2, 3, 4, 8, 9, 17, 18, 20, 0x7f, 0x80, 0xff} {
				l = append(l, clip(row[:i]+string([]byte{c})+row[i+1:]))
			}
		}
	}
	for _, s := range l {
		v, size, ok := Value([]byte(s))
		wantV, wantSize, want := valueAt(s)
		if exactly(v) != exactly(wantV) || size != wantSize || ok != want {
			t.Fatalf("%x: %v %d %v, not %v %d %v", s, v, size, ok, wantV, wantSize, want)
		}
	}
}

// What follows.

func checkApart(t *testing.T, rows map[string]bool) {
	t.Helper()
	for a := range rows {
		for b := range rows {
			if a != b && strings.HasPrefix(b, a) {
				t.Fatalf("%x is a beginning of %x", clip(a), clip(b))
			}
		}
	}
}

func TestNoneIsABeginningOfAnother(t *testing.T) {
	ofNumbers, ofTexts, ofValues := map[string]bool{}, map[string]bool{}, map[string]bool{}
	said := map[uint64]bool{}
	for _, n := range numbers() {
		said[n] = true
		ofNumbers[string(Put(nil, n))] = true
	}
	for _, s := range texts() {
		ofTexts[string(PutText(nil, s))] = true
	}
	saidValues := map[exact]bool{}
	for _, v := range rightValues() {
		saidValues[exactly(v)] = true
		row, _ := PutValue(nil, v)
		ofValues[string(row)] = true
	}
	if len(ofNumbers) != len(said) || len(ofTexts) != len(texts()) || len(ofValues) != len(saidValues) {
		t.Errorf("two have the same bytes")
	}
	checkApart(t, ofNumbers)
	checkApart(t, ofTexts)
	checkApart(t, ofValues)
}

func TestOneBehindTheOther(t *testing.T) {
	var b []byte
	for _, v := range rightValues() {
		b = Put(b, uint64(v.N))
		b = PutText(b, v.S)
		b, _ = PutValue(b, v)
	}
	for _, v := range rightValues() {
		n, size, ok := Get(b)
		b = b[size:]
		s, size, okText := Text(b)
		b = b[size:]
		got, size, okValue := Value(b)
		b = b[size:]
		if !ok || !okText || !okValue || n != uint64(v.N) || s != v.S || exactly(got) != exactly(v) {
			t.Fatalf("%d %q %v, not %v", n, clip(s), got, v)
		}
	}
	if len(b) != 0 {
		t.Errorf("%d left", len(b))
	}
}
