package label

import (
	"math/rand"
	"reflect"
	"slices"
	"strconv"
	"testing"

	"bridleway/api"
)

// asked is a right expression, with what its makers know of it: when it holds, and its names as they stand there.
type asked struct {
	e     api.Expr
	holds func(labels []string) bool
	names []string
}

func askedName(s string) asked {
	return asked{name(s), func(labels []string) bool {
		for _, l := range labels {
			if l == s {
				return true
			}
		}
		return false
	}, []string{s}}
}

func askedSome() asked {
	return asked{some(), func(labels []string) bool { return len(labels) != 0 }, nil}
}

func askedNot(a asked) asked {
	return asked{not(a.e), func(labels []string) bool { return a.holds(labels) == false }, a.names}
}

func askedAnd(a, b asked) asked {
	return asked{and(a.e, b.e), func(labels []string) bool {
		if a.holds(labels) {
			return b.holds(labels)
		}
		return false
	}, slices.Concat(a.names, b.names)}
}

func askedOr(a, b asked) asked {
	return asked{or(a.e, b.e), func(labels []string) bool {
		if a.holds(labels) {
			return true
		}
		return b.holds(labels)
	}, slices.Concat(a.names, b.names)}
}

// deeper is l, and all that is at most one deeper.
func deeper(l []asked) []asked {
	all := slices.Clone(l)
	for _, a := range l {
		all = append(all, askedNot(a))
		for _, b := range l {
			all = append(all, askedAnd(a, b), askedOr(a, b))
		}
	}
	return all
}

// someLabels is none, each of them alone, and several: in any order, some of them twice, and some that are no words.
func someLabels() [][]string {
	return [][]string{
		nil, {}, {"A"}, {"B"}, {"C"}, {"A", "B"}, {"B", "A"}, {"A", "A"}, {"B", "B", "B"}, {"C", "A", "C"}, {"B", "C", "A", "B"}, {"A", "B", "A", "B"},
		{""}, {"a"}, {"A "}, {" A"}, {"AB"}, {"A\x00"}, {"", "B"}, {"\xff", "1", "A"},
	}
}

func check(t *testing.T, a asked, labels []string) {
	t.Helper()
	if got, want := Has(labels, a.e), a.holds(labels); got != want {
		t.Errorf("Has %q %#v: %v", labels, a.e, got)
	}
}

// TestAll: all that is at most three deep, of A, B and any, with all of someLabels.
func TestAll(t *testing.T) {
	all := deeper(deeper([]asked{askedName("A"), askedName("B"), askedSome()}))
	for _, a := range all {
		wantRight(t, true, a.e)
		for _, labels := range someLabels() {
			check(t, a, labels)
		}
	}
}

func TestHas(t *testing.T) {
	a, b, c := name("A"), name("B"), name("C")
	for _, x := range []struct {
		labels []string
		e      api.Expr
		want   bool
	}{
		{[]string{"A", "B"}, and(a, not(c)), true}, {[]string{"A", "C"}, and(a, not(c)), false}, {nil, and(a, not(c)), false},
		{nil, api.Expr{}, true}, {[]string{"A"}, api.Expr{}, true}, {nil, some(), false}, {[]string{""}, some(), true}, {nil, not(some()), true},
		{nil, a, false}, {[]string{"a"}, a, false}, {[]string{"AA", "A_"}, a, false}, {[]string{"B", "A", "B"}, a, true}, {[]string{"A"}, name("a"), false},
		{[]string{"B", "C"}, or(a, or(b, c)), true}, {[]string{"B", "C"}, and(a, and(b, c)), false}, {[]string{"C", "B", "A"}, and(and(a, b), c), true},
		{[]string{"A"}, and(not(b), or(not(a), not(c))), true}, {[]string{"A"}, and(a, not(a)), false}, {nil, or(a, not(a)), true},
		{[]string{"A"}, name(""), false}, {[]string{""}, name(""), false}, {[]string{"1"}, name("1"), false}, {[]string{"A"}, not(name("")), false}, {[]string{"A"}, or(a, name("1")), false}, {nil, not(api.Expr{}), false}, {[]string{"A"}, or(a, api.Expr{}), false},
	} {
		if got := Has(x.labels, x.e); got != x.want {
			t.Errorf("Has %q %#v: %v", x.labels, x.e, got)
		}
	}
}

// TestNone: what asks nothing holds of anything, if it has nothing else.
func TestNone(t *testing.T) {
	for _, labels := range someLabels() {
		for _, v := range nothing() {
			if !Has(labels, api.Expr{Value: v}) || !Has(labels, api.Expr{Value: v, Kids: []api.Expr{}}) {
				t.Errorf("%q %#v", labels, v)
			}
		}
		if Has(labels, api.Expr{Name: "A"}) || Has(labels, api.Expr{Kids: []api.Expr{name("A")}}) || Has(labels, api.Expr{Value: api.Value{N: 1}}) {
			t.Errorf("%q", labels)
		}
	}
}

// TestDeepHas: however deep, as long as it is right.
func TestDeepHas(t *testing.T) {
	for n := 1; n <= 50; n++ {
		e := nested(n, name("A"), not)
		if Has([]string{"A"}, e) != (n%2 == 1) || Has(nil, e) != (n%2 == 0) {
			t.Error(n)
		}
	}
	for n := 51; n <= 60; n++ {
		e := nested(n, name("A"), not)
		if Has([]string{"A"}, e) || Has(nil, e) || Names(e) != nil {
			t.Error(n)
		}
	}
}

// randomAsked is of at most this depth.
func randomAsked(r *rand.Rand, deep int) asked {
	n := r.Intn(12)
	switch {
	case deep > 1 && n < 3:
		return askedNot(randomAsked(r, deep-1))
	case deep > 1 && n < 7:
		return askedAnd(randomAsked(r, deep-1), randomAsked(r, deep-1))
	case deep > 1 && n < 10:
		return askedOr(randomAsked(r, deep-1), randomAsked(r, deep-1))
	case n == 11:
		return askedSome()
	}
	return askedName(randomName(r))
}

func randomName(r *rand.Rand) string { return "L" + strconv.Itoa(r.Intn(12)) }

func randomLabels(r *rand.Rand) []string {
	l := make([]string, r.Intn(8))
	for i := range l {
		l[i] = randomName(r)
	}
	return l
}

// TestFollows: only which of its names are there counts, and whether any label is.
func TestFollows(t *testing.T) {
	r := rand.New(rand.NewSource(6))
	for range 20000 {
		a, labels := randomAsked(r, 1+r.Intn(7)), randomLabels(r)
		check(t, a, labels)
		others := []string{}
		for _, l := range labels {
			if slices.Contains(Names(a.e), l) {
				others = append(others, l, l)
			}
		}
		if len(labels) > 0 {
			others = append(others, "other", "")
		}
		r.Shuffle(len(others), func(i, j int) { others[i], others[j] = others[j], others[i] })
		if Has(others, a.e) != Has(labels, a.e) {
			t.Errorf("%q %q %#v", labels, others, a.e)
		}
	}
}

func TestNames(t *testing.T) {
	a, b, c := name("A"), name("B"), name("C")
	for _, x := range []struct {
		e    api.Expr
		want []string
	}{
		{api.Expr{}, nil}, {some(), nil}, {not(some()), nil}, {and(some(), some()), nil},
		{a, []string{"A"}}, {not(not(b)), []string{"B"}}, {and(b, a), []string{"A", "B"}}, {or(a, b), []string{"A", "B"}}, {or(some(), c), []string{"C"}},
		{and(a, a), []string{"A"}}, {or(and(c, a), and(a, not(c))), []string{"A", "C"}}, {and(b, or(a, b)), []string{"A", "B"}}, {or(or(c, b), or(a, or(c, b))), []string{"A", "B", "C"}},
		{or(or(or(name("b"), name("aa")), or(name("_"), name("B"))), or(or(name("a"), name("a1")), or(name("a_"), name("A")))), []string{"A", "B", "_", "a", "a1", "a_", "aa", "b"}},
		{name(""), nil}, {and(a, name("1")), nil}, {or(api.Expr{}, a), nil}, {api.Expr{Kind: api.LabelAnd, Kids: []api.Expr{a}}, nil}, {api.Expr{Kind: api.LabelAny, Name: "A"}, nil}, {api.Expr{Kind: api.ExprProp, Name: "A"}, nil}, {api.Expr{Name: "A"}, nil},
	} {
		if got := Names(x.e); !slices.Equal(got, x.want) {
			t.Errorf("Names %#v: %q, not %q", x.e, got, x.want)
		}
	}
}

// TestManyNames: of any, each once, rising.
func TestManyNames(t *testing.T) {
	r := rand.New(rand.NewSource(7))
	for range 5000 {
		a := randomAsked(r, 1+r.Intn(7))
		want := slices.Clone(a.names)
		slices.Sort(want)
		want = slices.Compact(want)
		if got := Names(a.e); !slices.Equal(got, want) {
			t.Errorf("Names %#v: %q, not %q", a.e, got, want)
		}
	}
	for n := 1; n <= 50; n++ {
		if got := Names(nested(n, name("Z"), ways()...)); !slices.Equal(got[len(got)-1:], []string{"Z"}) {
			t.Error(n, got)
		}
	}
}

// TestOwn: what was handed in stays as it was, and what is answered is the caller's.
func TestOwn(t *testing.T) {
	r := rand.New(rand.NewSource(8))
	for range 500 {
		seed, labels := r.Int63(), randomLabels(r)
		a, same := randomAsked(rand.New(rand.NewSource(seed)), 6), randomAsked(rand.New(rand.NewSource(seed)), 6)
		before := slices.Clone(labels)
		Right(a.e)
		Has(labels, a.e)
		names := Names(a.e)
		if !slices.Equal(labels, before) || !reflect.DeepEqual(a.e, same.e) {
			t.Fatalf("%q %#v", labels, a.e)
		}
		kept := slices.Clone(names)
		clear(names[:cap(names)])
		if !reflect.DeepEqual(a.e, same.e) || !slices.Equal(Names(a.e), kept) {
			t.Fatalf("%q %#v", kept, a.e)
		}
	}
}

// spots is each part of e, where it stands.
func spots(e *api.Expr) []*api.Expr {
	l := []*api.Expr{e}
	for i := range e.Kids {
		l = append(l, spots(&e.Kids[i])...)
	}
	return l
}

// spoil makes a right part wrong in one of the ways that there are for it.
func spoil(r *rand.Rand, e *api.Expr) {
	switch r.Intn(5) {
	case 0:
		e.Value = something()[r.Intn(len(something()))]
	case 1:
		e.Kids = slices.Concat(e.Kids, []api.Expr{name("A"), name("A")})
	case 2:
		e.Kind = []int{-1, 0, 1, 2, 3, 9}[r.Intn(6)]
	case 3:
		*e = api.Expr{}
	default:
		e.Name += "-"
	}
}

func TestSpoilt(t *testing.T) {
	r := rand.New(rand.NewSource(9))
	for range 10000 {
		e := not(randomAsked(r, 1+r.Intn(6)).e)
		wantRight(t, true, e)
		l := spots(&e)
		spoil(r, l[1+r.Intn(len(l)-1)])
		wantRight(t, false, e)
	}
}
