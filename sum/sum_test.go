package sum

import (
	"bytes"
	"hash/fnv"
	"math"
	"math/big"
	"math/rand"
	"slices"
	"strings"
	"testing"
)

// chosen is sums at the edges of 64 bits, and some between.
var chosen = []uint64{0, 1, 255, 256, 1 << 32, start, factor, 0xAF63DC4C8601EC8C, 1<<63 - 1, 1 << 63, math.MaxUint64 - 255, math.MaxUint64}

// byLetter is what More is to answer, by whole numbers that have room for all of it.
func byLetter(sum uint64, b []byte) uint64 {
	room := new(big.Int).Lsh(big.NewInt(1), 64)
	n := new(big.Int).SetUint64(sum)
	for _, c := range b {
		n.Xor(n, big.NewInt(int64(c)))
		n.Mul(n, big.NewInt(1099511628211))
		n.Mod(n, room)
	}
	return n.Uint64()
}

// another is the sum as others reckon it.
func another(b []byte) uint64 {
	h := fnv.New64a()
	h.Write(b)
	return h.Sum64()
}

func someBytes(r *rand.Rand, size int) []byte {
	b := make([]byte, size)
	r.Read(b)
	return b
}

// wantMore holds More to the letter, and what was handed in to what it was.
func wantMore(t *testing.T, sum uint64, b []byte) {
	t.Helper()
	was := slices.Clone(b)
	if got, want := More(sum, b), byLetter(sum, b); got != want {
		t.Errorf("More of %X and %q: %X, not %X", sum, b, got, want)
	}
	if !bytes.Equal(b, was) {
		t.Errorf("%q: written over", was)
	}
}

func TestSumExamples(t *testing.T) {
	for s, want := range map[string]uint64{
		"":       14695981039346656037,
		"a":      0xAF63DC4C8601EC8C,
		"b":      0xAF63DF4C8601F1A5,
		"\x00":   0xAF63BD4C8601B7DF,
		"fo":     0x08985907B541D342,
		"foo":    0xDCB27518FED9D577,
		"foob":   0xDD120E790C2512AF,
		"fooba":  0xCAC165AFA2FEF40A,
		"foobar": 0x85944171F73967E8,
	} {
		if got := Sum([]byte(s)); got != want {
			t.Errorf("%q: %X, not %X", s, got, want)
		}
	}
}

func TestSumOfNothing(t *testing.T) {
	for _, b := range [][]byte{nil, {}, make([]byte, 0, 9), []byte("abc")[:0]} {
		if got := Sum(b); got != 14695981039346656037 {
			t.Errorf("%X", got)
		}
		for _, sum := range chosen {
			if got := More(sum, b); got != sum {
				t.Errorf("%X: %X", sum, got)
			}
		}
	}
}

func TestSumOfEachByte(t *testing.T) {
	for c := range 256 {
		b := []byte{byte(c)}
		if got, want := Sum(b), another(b); got != want {
			t.Errorf("%q: %X, not %X", b, got, want)
		}
		for _, sum := range chosen {
			wantMore(t, sum, b)
		}
	}
}

// A zero byte ends nothing: how many of them there are is told.
func TestSumOfZeros(t *testing.T) {
	seen := map[uint64]int{}
	for size := range 1000 {
		got := Sum(make([]byte, size))
		if was, ok := seen[got]; ok {
			t.Errorf("%d and %d zeros: %X", was, size, got)
		}
		seen[got] = size
		if size > 0 && More(0, make([]byte, size)) != 0 {
			t.Errorf("%d zeros behind 0", size)
		}
	}
}

func TestSumByTheLetter(t *testing.T) {
	r := rand.New(rand.NewSource(1))
	for i := range 2000 {
		b := someBytes(r, r.Intn(60))
		if got, want := Sum(b), another(b); got != want {
			t.Errorf("%q: %X, not %X", b, got, want)
		}
		wantMore(t, start, b)
		wantMore(t, chosen[i%len(chosen)], b)
		wantMore(t, r.Uint64(), b)
	}
}

func TestSumOfMany(t *testing.T) {
	b := someBytes(rand.New(rand.NewSource(2)), 3<<20)
	if got, want := Sum(b), another(b); got != want {
		t.Errorf("%X, not %X", got, want)
	}
	b = []byte(strings.Repeat("node a\n", 1<<16))
	if got, want := Sum(b), another(b); got != want {
		t.Errorf("%X, not %X", got, want)
	}
}

func TestMoreByPieces(t *testing.T) {
	r := rand.New(rand.NewSource(3))
	for size := range 40 {
		b := someBytes(r, size)
		want := Sum(b)
		one := Sum(nil)
		for i, c := range b {
			one = More(More(one, []byte{c}), nil)
			for j := i; j <= size; j++ {
				if got := More(More(Sum(b[:i]), b[i:j]), b[j:]); got != want {
					t.Errorf("%q at %d and %d: %X, not %X", b, i, j, got, want)
				}
			}
		}
		if one != want {
			t.Errorf("%q, one by one: %X, not %X", b, one, want)
		}
	}
}

func TestMoreHangsOnTheOrder(t *testing.T) {
	for _, pair := range [][2]string{{"ab", "ba"}, {"a", "aa"}, {"a", "a\x00"}, {"a", "\x00a"}, {"abc", "acb"}, {"", "\x00"}} {
		// Of other sums this may fail: a zero byte leaves 0, and 2 to the power of 63, as they are.
		for _, sum := range []uint64{start, factor, 1, math.MaxUint64} {
			if More(sum, []byte(pair[0])) == More(sum, []byte(pair[1])) {
				t.Errorf("%X: %q", sum, pair)
			}
		}
	}
}

// Whoever has a sum and the bytes has the sum that was ahead: so none is made of two.
func TestMoreOfUnlikeIsUnlike(t *testing.T) {
	back := new(big.Int).ModInverse(new(big.Int).SetUint64(1099511628211), new(big.Int).Lsh(big.NewInt(1), 64)).Uint64()
	r := rand.New(rand.NewSource(4))
	for i := range 5000 {
		b := someBytes(r, r.Intn(30))
		sum := r.Uint64()
		if i < len(chosen) {
			sum = chosen[i]
		}
		ahead := More(sum, b)
		for bit := range 64 {
			if More(sum^1<<bit, b) == ahead {
				t.Errorf("%X without bit %d, and %q", sum, bit, b)
			}
		}
		for _, c := range slices.Backward(b) {
			ahead = ahead*back ^ uint64(c)
		}
		if ahead != sum {
			t.Errorf("%q: from %X back to %X", b, sum, ahead)
		}
	}
}

// What stands behind a piece, or is written over it later, is none of its bytes.
func TestSumLooksAtItsBytesAlone(t *testing.T) {
	b := []byte("foobar")
	first := Sum(b[:3])
	b[3] = '!'
	if again := Sum(b[:3]); first != again || first != 0xDCB27518FED9D577 {
		t.Errorf("%X %X", first, again)
	}
	b[0] = '!'
	if again := Sum([]byte("foo")); again != first {
		t.Errorf("%X %X", first, again)
	}
}
