package logic

import (
	"math"
	"slices"
	"testing"

	"bridleway/api"
)

// strange is numbers that are none of the three truths.
var strange = []Truth{math.MinInt, math.MinInt + 1, math.MinInt32, -256, -3, -2, -1, 3, 4, 7, 255, 256, 257, 1 << 32, 1<<32 + 1, math.MaxInt - 1, math.MaxInt}

// all is the three truths, and those that are none.
func all() []Truth { return append([]Truth{No, Yes, Unknown}, strange...) }

// rows goes through all lists of exactly size items of l.
func rows(l []Truth, size int, yield func([]Truth)) {
	row := make([]Truth, size)
	var fill func(int)
	fill = func(i int) {
		if i == size {
			yield(row)
			return
		}
		for _, t := range l {
			row[i] = t
			fill(i + 1)
		}
	}
	fill(0)
}

// ofAny is what the chapter says of And and Or, by counts: how many are no, how many yes, how many neither.
func ofAny(l []Truth) (and, or Truth) {
	var no, yes int
	for _, t := range l {
		switch t {
		case No:
			no++
		case Yes:
			yes++
		}
	}
	neither := len(l) - no - yes
	and, or = Yes, No
	if neither > 0 {
		and, or = Unknown, Unknown
	}
	if no > 0 {
		and = No
	}
	if yes > 0 {
		or = Yes
	}
	return and, or
}

func TestNumbers(t *testing.T) {
	if No != 0 || Yes != 1 || Unknown != 2 {
		t.Error(No, Yes, Unknown)
	}
}

func TestOf(t *testing.T) {
	for _, c := range []struct {
		v    api.Value
		want Truth
		err  api.Errno
	}{
		{api.Value{}, Unknown, api.OK},
		{api.Value{Kind: api.Bool}, No, api.OK},
		{api.Value{Kind: api.Bool, N: 1}, Yes, api.OK},
		{api.Value{Kind: api.Bool, N: 2}, Unknown, api.ErrType},
		{api.Value{Kind: api.Bool, N: -1}, Unknown, api.ErrType},
		{api.Value{Kind: api.Int}, Unknown, api.ErrType},
		{api.Value{Kind: api.Int, N: 1}, Unknown, api.ErrType},
		{api.Value{Kind: api.Float}, Unknown, api.ErrType},
		{api.Value{Kind: api.Float, F: 1}, Unknown, api.ErrType},
		{api.Value{Kind: api.Text}, Unknown, api.ErrType},
		{api.Value{Kind: api.Text, S: "true"}, Unknown, api.ErrType},
		{api.Value{Kind: 5, N: 1}, Unknown, api.ErrType},
		{api.Value{Kind: -1}, Unknown, api.ErrType},
	} {
		if got, err := Of(c.v); got != c.want || err != c.err {
			t.Errorf("Of(%#v) = %d, %d; want %d, %d", c.v, got, err, c.want, c.err)
		}
	}
}

// TestOfFields goes through kinds that there are and are not, each with every mix of fields.
func TestOfFields(t *testing.T) {
	kinds := []int{math.MinInt, math.MinInt32, -256, -2, -1, api.Null, api.Bool, api.Int, api.Float, api.Text, 5, 6, 16, 17, 256, 257, 1 << 32, 1<<32 + 1, math.MaxInt}
	ns := []int64{math.MinInt64, math.MinInt64 + 1, math.MinInt32, -256, -2, -1, 0, 1, 2, 3, 255, 256, 257, 1 << 32, 1<<32 + 1, math.MaxInt64 - 1, math.MaxInt64}
	fs := []float64{0, math.Copysign(0, -1), 1, -1, 0.5, math.Inf(1), math.Inf(-1), math.NaN()}
	for _, k := range kinds {
		for _, n := range ns {
			want, wanted := Unknown, api.ErrType
			if k == 0 {
				wanted = api.OK
			}
			if k == 1 && (n == 0 || n == 1) {
				want, wanted = Truth(n), api.OK
			}
			for _, f := range fs {
				for _, s := range []string{"", "0", "1", "null", "true", "\x00"} {
					v := api.Value{Kind: k, N: n, F: f, S: s}
					if got, err := Of(v); got != want || err != wanted {
						t.Fatalf("Of(%#v) = %d, %d; want %d, %d", v, got, err, want, wanted)
					}
				}
			}
		}
	}
}

func TestValue(t *testing.T) {
	if v := No.Value(); v != (api.Value{Kind: api.Bool, N: 0}) {
		t.Error("no", v)
	}
	if v := Yes.Value(); v != (api.Value{Kind: api.Bool, N: 1}) {
		t.Error("yes", v)
	}
	for _, a := range append(strange, Unknown) {
		if v := a.Value(); v != (api.Value{}) {
			t.Error(int(a), v)
		}
	}
}

// TestThere: what a truth is as a value says the same truth again.
func TestThere(t *testing.T) {
	for _, a := range all() {
		want := a
		if Is(a) == Yes {
			want = Unknown
		}
		if got, err := Of(a.Value()); got != want || err != api.OK {
			t.Error(int(a), got, err)
		}
	}
}

func TestNot(t *testing.T) {
	if Not(No) != Yes || Not(Yes) != No || Not(Unknown) != Unknown {
		t.Error(Not(No), Not(Yes), Not(Unknown))
	}
	for _, a := range strange {
		if got := Not(a); got != Unknown {
			t.Error(int(a), got)
		}
	}
}

func TestIs(t *testing.T) {
	if Is(No) != No || Is(Yes) != No || Is(Unknown) != Yes {
		t.Error(Is(No), Is(Yes), Is(Unknown))
	}
	for _, a := range strange {
		if got := Is(a); got != Yes {
			t.Error(int(a), got)
		}
	}
}

func TestAndOr(t *testing.T) {
	for _, c := range []struct {
		l       []Truth
		and, or Truth
	}{
		{nil, Yes, No},
		{[]Truth{}, Yes, No},
		{[]Truth{No}, No, No},
		{[]Truth{Yes}, Yes, Yes},
		{[]Truth{Unknown}, Unknown, Unknown},
		{[]Truth{7}, Unknown, Unknown},
		{[]Truth{-1}, Unknown, Unknown},
		{[]Truth{No, No}, No, No},
		{[]Truth{No, Yes}, No, Yes},
		{[]Truth{Yes, Yes}, Yes, Yes},
		{[]Truth{Yes, Unknown}, Unknown, Yes},
		{[]Truth{No, Unknown}, No, Unknown},
		{[]Truth{Unknown, Yes}, Unknown, Yes},
		{[]Truth{Unknown, No}, No, Unknown},
		{[]Truth{Unknown, Unknown}, Unknown, Unknown},
		{[]Truth{7, Yes}, Unknown, Yes},
		{[]Truth{No, -1}, No, Unknown},
		{[]Truth{No, Yes, Unknown}, No, Yes},
		{[]Truth{No, Unknown, Yes}, No, Yes},
		{[]Truth{Yes, No, Unknown}, No, Yes},
		{[]Truth{Yes, Unknown, No}, No, Yes},
		{[]Truth{Unknown, No, Yes}, No, Yes},
		{[]Truth{Unknown, Yes, No}, No, Yes},
	} {
		if got := And(c.l...); got != c.and {
			t.Errorf("And(%v) = %d; want %d", c.l, got, c.and)
		}
		if got := Or(c.l...); got != c.or {
			t.Errorf("Or(%v) = %d; want %d", c.l, got, c.or)
		}
	}
	if And() != Yes || Or() != No {
		t.Error("of none", And(), Or())
	}
}

// TestRows: every list of up to six of the three truths and two other numbers, and of up to three of all numbers there are here.
func TestRows(t *testing.T) {
	check := func(l []Truth) {
		and, or := ofAny(l)
		if got := And(l...); got != and {
			t.Fatalf("And(%v) = %d; want %d", l, got, and)
		}
		if got := Or(l...); got != or {
			t.Fatalf("Or(%v) = %d; want %d", l, got, or)
		}
	}
	for size := range 7 {
		rows([]Truth{No, Yes, Unknown, -1, 3}, size, check)
	}
	for size := range 4 {
		rows(all(), size, check)
	}
}

// TestLong puts one truth anywhere among very many others.
func TestLong(t *testing.T) {
	const size = 100000
	for _, many := range all() {
		l := slices.Repeat([]Truth{many}, size)
		for _, at := range []int{0, 1, size / 2, size - 1} {
			for _, one := range []Truth{No, Yes, Unknown, 3} {
				l[at] = one
				and, or := ofAny([]Truth{many, one})
				if And(l...) != and || Or(l...) != or {
					t.Fatal(int(many), at, int(one), And(l...), Or(l...))
				}
				l[at] = many
			}
		}
	}
}

// TestNotOfAnd: Not of And is Or of Nots, and the other way round.
func TestNotOfAnd(t *testing.T) {
	for size := range 4 {
		rows(all(), size, func(l []Truth) {
			nots := make([]Truth, len(l))
			for i, a := range l {
				nots[i] = Not(a)
			}
			if Not(And(l...)) != Or(nots...) || Not(Or(l...)) != And(nots...) {
				t.Fatal(l, And(l...), Or(l...))
			}
		})
	}
}

// TestHandedIn: a list that is handed in stays as it was, behind its end too.
func TestHandedIn(t *testing.T) {
	whole := append(all(), No, Yes, 9)
	before := slices.Clone(whole)
	for end := range len(whole) {
		And(whole[:end]...)
		Or(whole[:end]...)
		if !slices.Equal(whole, before) {
			t.Fatal(end, whole)
		}
	}
}
