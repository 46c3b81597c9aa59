package graph

import (
	"math"
	"reflect"
	"slices"
	"strconv"
	"strings"
	"testing"

	"bridleway/api"
	"bridleway/value"
)

func whole(n int64) api.Value { return api.Value{Kind: api.Int, N: n} }

// sample is a right graph with several of everything; each call makes it anew.
func sample() api.Graph {
	return api.Graph{
		Nodes: []api.Node{
			{Name: "a", Labels: []string{"A", "B", "b"}, Props: []api.Prop{{Name: "p", Value: whole(1)}, {Name: "q", Value: whole(2)}, {Name: "r", Value: whole(3)}}},
			{Name: "b", Labels: []string{"C"}, Props: []api.Prop{{Name: "p", Value: api.Value{Kind: api.Text, S: "x"}}}},
			{Name: "c"},
		},
		Edges: []api.Edge{
			{Name: "ab", From: 0, To: 1, Directed: true, Labels: []string{"A", "E", "F"}, Props: []api.Prop{{Name: "_", Value: whole(4)}, {Name: "o", Value: whole(5)}, {Name: "p", Value: whole(6)}}},
			{Name: "b", From: 1, To: 2, Labels: []string{"E"}, Props: []api.Prop{{Name: "p", Value: api.Value{Kind: api.Float, F: 1.5}}}},
			{Name: "c", From: 2, To: 2, Directed: true},
			{Name: "d", From: 2, To: 2},
		},
	}
}

// wantErr holds New to what Right is to say: beside an error there is no index.
func wantErr(t *testing.T, what string, g api.Graph, want api.Errno) {
	t.Helper()
	before := copied(g)
	if got := Right(g); got != want {
		t.Errorf("Right %s: %v, not %v", what, got, want)
	}
	x, got := New(g)
	if got != want || (x != nil) != (want == api.OK) {
		t.Errorf("New %s: %v %v, not %v", what, x, got, want)
	}
	if !same(g, before) {
		t.Errorf("%s: written over", what)
	}
}

// same holds floats against each other by their bits: DeepEqual takes no nan for itself.
func same(a, b api.Graph) bool {
	a, b = copied(a), copied(b)
	return slices.Equal(takeFloats(a), takeFloats(b)) && reflect.DeepEqual(a, b)
}

func takeFloats(g api.Graph) []uint64 {
	var bits []uint64
	take := func(props []api.Prop) {
		for i := range props {
			bits = append(bits, math.Float64bits(props[i].Value.F))
			props[i].Value.F = 0
		}
	}
	for _, n := range g.Nodes {
		take(n.Props)
	}
	for _, e := range g.Edges {
		take(e.Props)
	}
	return bits
}

// copied keeps what a graph is, whatever is done to it.
func copied(g api.Graph) api.Graph {
	c := api.Graph{Nodes: append([]api.Node(nil), g.Nodes...), Edges: append([]api.Edge(nil), g.Edges...)}
	if g.Nodes != nil && c.Nodes == nil {
		c.Nodes = []api.Node{}
	}
	if g.Edges != nil && c.Edges == nil {
		c.Edges = []api.Edge{}
	}
	for i := range c.Nodes {
		c.Nodes[i].Labels, c.Nodes[i].Props = slices.Clone(c.Nodes[i].Labels), slices.Clone(c.Nodes[i].Props)
	}
	for i := range c.Edges {
		c.Edges[i].Labels, c.Edges[i].Props = slices.Clone(c.Edges[i].Labels), slices.Clone(c.Edges[i].Props)
	}
	return c
}

// eachElement calls with sample, and with what one of its nodes or edges has, for whoever makes it something else.
func eachElement(do func(what string, g api.Graph, name *string, labels *[]string, props *[]api.Prop)) {
	for i := range sample().Nodes {
		g := sample()
		do("node "+strconv.Itoa(i), g, &g.Nodes[i].Name, &g.Nodes[i].Labels, &g.Nodes[i].Props)
	}
	for i := range sample().Edges {
		g := sample()
		do("edge "+strconv.Itoa(i), g, &g.Edges[i].Name, &g.Edges[i].Labels, &g.Edges[i].Props)
	}
}

func wordsThatAre() []string {
	return []string{"x", "Z", "_", "__", "_9", "z0", "A9_z", "null", "node", strings.Repeat("x", 40), "z" + strings.Repeat("0", 39)}
}

func wordsThatAreNot() []string {
	return []string{"", "1", "9a", "-", "a-b", "a b", " a", "a ", "a\n", "a:b", "a.b", "\x00", "a\x00", "\xff", "a\x80", "\u00e9", "a\u00e9", "\uff21", strings.Repeat("x", 41), strings.Repeat("x", 1<<16+1), strings.Repeat("\u00e9", 20)}
}

func result(right bool) api.Errno {
	if right {
		return api.OK
	}
	return api.ErrArg
}

func TestRight(t *testing.T) {
	wantErr(t, "sample", sample(), api.OK)
	wantErr(t, "nothing", api.Graph{}, api.OK)
	wantErr(t, "no items", api.Graph{Nodes: []api.Node{}, Edges: []api.Edge{}}, api.OK)
	wantErr(t, "one node", api.Graph{Nodes: []api.Node{{Name: "a"}}}, api.OK)
	wantErr(t, "no items of an element", api.Graph{Nodes: []api.Node{{Name: "a", Labels: []string{}, Props: []api.Prop{}}}, Edges: []api.Edge{{Name: "a", Labels: []string{}, Props: []api.Prop{}}}}, api.OK)
	wantErr(t, "edges without nodes", api.Graph{Edges: []api.Edge{{Name: "e"}}}, api.ErrArg)
	wantErr(t, "edges alike, but for their names", api.Graph{Nodes: []api.Node{{Name: "a"}}, Edges: []api.Edge{{Name: "e"}, {Name: "f"}, {Name: "g", Directed: true}, {Name: "h", Directed: true}}}, api.OK)
}

func TestNames(t *testing.T) {
	for right, words := range map[bool][]string{true: wordsThatAre(), false: wordsThatAreNot()} {
		for _, s := range words {
			eachElement(func(what string, g api.Graph, name *string, _ *[]string, _ *[]api.Prop) {
				*name = s
				wantErr(t, what+" named "+strconv.Quote(s), g, result(right))
			})
		}
	}
}

func TestOneNameTwice(t *testing.T) {
	for i := range sample().Nodes {
		for k := range sample().Nodes {
			g := sample()
			g.Nodes[i].Name = g.Nodes[k].Name
			wantErr(t, "nodes "+strconv.Itoa(i)+" and "+strconv.Itoa(k), g, result(i == k))
		}
		for k := range sample().Edges {
			g := sample()
			g.Nodes[i].Name, g.Edges[k].Name = "both", "both"
			wantErr(t, "node "+strconv.Itoa(i)+" and edge "+strconv.Itoa(k), g, api.OK)
		}
	}
	for i := range sample().Edges {
		for k := range sample().Edges {
			g := sample()
			g.Edges[i].Name = g.Edges[k].Name
			wantErr(t, "edges "+strconv.Itoa(i)+" and "+strconv.Itoa(k), g, result(i == k))
		}
	}
	wantErr(t, "names by their bytes", api.Graph{Nodes: []api.Node{{Name: "a"}, {Name: "A"}, {Name: "aa"}, {Name: "a_"}, {Name: "_a"}}, Edges: []api.Edge{{Name: "e"}, {Name: "E"}, {Name: "ee"}}}, api.OK)
}

func TestLabelsThatAreWords(t *testing.T) {
	for right, words := range map[bool][]string{true: wordsThatAre(), false: wordsThatAreNot()} {
		for _, s := range words {
			lists := [][]string{{s}, {"A", s}, {s, "zz"}, {"A", s, "zz"}}
			for _, l := range lists {
				eachElement(func(what string, g api.Graph, _ *string, labels *[]string, _ *[]api.Prop) {
					*labels = l
					wantErr(t, what+" "+strconv.Quote(strings.Join(l, ":")), g, result(right && slices.IsSorted(l)))
				})
			}
		}
	}
}

// lists is words that rise, and some that do not.
func lists() (rise, not [][]string) {
	rise = [][]string{nil, {"A"}, {"A", "B"}, {"A", "a"}, {"Z", "_", "a"}, {"A", "A0", "AA", "A_", "Aa"}, {"a", "a9", "b"}, {"A10", "A2"}, {"A", "B", "C", "D", "E"}}
	not = [][]string{{"A", "A"}, {"B", "A"}, {"a", "A"}, {"_", "Z"}, {"a", "_"}, {"AA", "A"}, {"A2", "A10"}, {"A", "B", "B"}, {"A", "A", "B"}, {"A", "B", "A"}, {"A", "C", "B"}, {"B", "A", "C"}, {"A", "B", "C", "E", "D"}, {"C", "B", "A"}}
	return rise, not
}

func TestLabelsRise(t *testing.T) {
	rise, not := lists()
	for right, all := range map[bool][][]string{true: rise, false: not} {
		for _, l := range all {
			eachElement(func(what string, g api.Graph, _ *string, labels *[]string, _ *[]api.Prop) {
				*labels = l
				wantErr(t, what+" "+strings.Join(l, ":"), g, result(right))
			})
		}
	}
}

// named is properties of these names, whose values fall.
func named(l []string) []api.Prop {
	var props []api.Prop
	for i, s := range l {
		props = append(props, api.Prop{Name: s, Value: whole(int64(-i))})
	}
	return props
}

func TestPropsRise(t *testing.T) {
	rise, not := lists()
	for right, all := range map[bool][][]string{true: rise, false: not} {
		for _, l := range all {
			eachElement(func(what string, g api.Graph, _ *string, _ *[]string, props *[]api.Prop) {
				*props = named(l)
				wantErr(t, what+" "+strings.Join(l, "="), g, result(right))
			})
		}
	}
}

func TestPropsThatAreWords(t *testing.T) {
	for right, words := range map[bool][]string{true: wordsThatAre(), false: wordsThatAreNot()} {
		for _, s := range words {
			for _, l := range [][]string{{s}, {"A", s}, {s, "zz"}, {"A", s, "zz"}} {
				eachElement(func(what string, g api.Graph, _ *string, _ *[]string, props *[]api.Prop) {
					*props = named(l)
					wantErr(t, what+" "+strconv.Quote(strings.Join(l, "=")), g, result(right && slices.IsSorted(l)))
				})
			}
		}
	}
}

func rightValues() []api.Value {
	return []api.Value{
		{Kind: api.Bool}, {Kind: api.Bool, N: 1}, whole(0), whole(math.MinInt64), whole(math.MaxInt64), {Kind: api.Text}, {Kind: api.Text, S: "null"}, {Kind: api.Text, S: "\x00\n'\xff"},
		{Kind: api.Float}, {Kind: api.Float, F: math.Copysign(0, -1)}, {Kind: api.Float, F: 1.5}, {Kind: api.Float, F: math.Inf(-1)}, {Kind: api.Float, F: math.Float64frombits(0x7FF8000000000001)},
	}
}

func wrongValues() []api.Value {
	return []api.Value{
		{}, {N: 1}, {S: "a"}, {F: 1}, {Kind: 5}, {Kind: 9}, {Kind: -1}, {Kind: math.MinInt}, {Kind: api.Bool, N: 2}, {Kind: api.Bool, N: -1}, {Kind: api.Int, S: "1"}, {Kind: api.Int, N: 1, F: 1}, {Kind: api.Text, S: "a", N: 1},
		{Kind: api.Float, N: 1}, {Kind: api.Float, F: math.Float64frombits(0x7FF8000000000002)}, {Kind: api.Float, F: math.Float64frombits(0xFFF8000000000001)},
	}
}

func TestValues(t *testing.T) {
	for right, values := range map[bool][]api.Value{true: rightValues(), false: wrongValues()} {
		for n, v := range values {
			for place := range 3 {
				eachElement(func(what string, g api.Graph, _ *string, _ *[]string, props *[]api.Prop) {
					*props = named([]string{"p", "q", "r"})
					(*props)[place].Value = v
					wantErr(t, what+" with value "+strconv.Itoa(n)+" at "+strconv.Itoa(place), g, result(right))
				})
			}
		}
	}
}

func TestEnds(t *testing.T) {
	for i := range sample().Edges {
		for _, place := range []int{0, 1, 2, -1, -2, 3, 4, 1000, -1000, 1 << 32, 1<<32 + 1, -1 << 32, math.MinInt, math.MaxInt} {
			right := 0 <= place && place <= 2
			what := "edge " + strconv.Itoa(i) + " at " + strconv.Itoa(place)
			for _, directed := range []bool{true, false} {
				g := sample()
				g.Edges[i].Directed = directed
				g.Edges[i].From = place
				wantErr(t, what, g, result(right))
				g.Edges[i].From, g.Edges[i].To = 1, place
				wantErr(t, what, g, result(right))
				g.Edges[i].From = place
				wantErr(t, what, g, result(right))
			}
		}
	}
	g := sample()
	g.Nodes = g.Nodes[:2]
	wantErr(t, "a node less", g, api.ErrArg)
	g.Nodes = nil
	wantErr(t, "no nodes", g, api.ErrArg)
}

// sized is a right graph of so many nodes and edges, if there is a node to lead from.
func sized(nodes, edges int) api.Graph {
	var g api.Graph
	for i := range nodes {
		g.Nodes = append(g.Nodes, api.Node{Name: "n" + strconv.Itoa(i)})
	}
	for i := range edges {
		g.Edges = append(g.Edges, api.Edge{Name: "e" + strconv.Itoa(i), From: i % max(nodes, 1), To: (i * i) % max(nodes, 1), Directed: i%3 > 0})
	}
	return g
}

func TestLimits(t *testing.T) {
	for _, nodes := range []int{1, 2, 999, 1000, 1001, 1002, 2000, 5000} {
		for _, edges := range []int{0, 1, 999, 1000, 1001, 1002, 2000, 5000} {
			want, besides := api.OK, api.ErrArg
			if nodes > 1000 || edges > 1000 {
				want, besides = api.ErrLimit, api.ErrLimit
			}
			what := strconv.Itoa(nodes) + " nodes, " + strconv.Itoa(edges) + " edges"
			g := sized(nodes, edges)
			wantErr(t, what, g, want)
			g.Nodes[0].Name = "1"
			wantErr(t, what+", no word", g, besides)
			g.Nodes[0].Name, g.Nodes[nodes-1].Labels = "x", []string{"A", "A"}
			wantErr(t, what+", the last node wrong", g, besides)
			if edges > 0 {
				g = sized(nodes, edges)
				g.Edges[edges-1].To = nodes
				wantErr(t, what+", the last edge wrong", g, besides)
			}
			if edges > 1 {
				g.Edges[edges-1] = g.Edges[0]
				wantErr(t, what+", an edge twice", g, besides)
			}
			if nodes > 1 {
				g = sized(nodes, edges)
				g.Nodes[nodes-1] = g.Nodes[0]
				wantErr(t, what+", a node twice", g, besides)
			}
		}
	}
	wantErr(t, "many nodes that are none", api.Graph{Nodes: make([]api.Node, 1001)}, api.ErrLimit)
	wantErr(t, "nodes that are none", api.Graph{Nodes: make([]api.Node, 1000)}, api.ErrArg)
	wantErr(t, "many edges of no nodes", sized(0, 1001), api.ErrLimit)
	wantErr(t, "edges of no nodes", sized(0, 1000), api.ErrArg)
}

// TestValuesByLayer2: what is right there is right here, but Null.
func TestValuesByLayer2(t *testing.T) {
	for kind := -1; kind <= 6; kind++ {
		for n := int64(-1); n <= 2; n++ {
			for _, f := range []float64{0, math.Copysign(0, -1), 1, math.NaN(), math.Float64frombits(0x7FF8000000000002)} {
				for _, s := range []string{"", "a"} {
					v := api.Value{Kind: kind, N: n, F: f, S: s}
					g := api.Graph{Nodes: []api.Node{{Name: "a", Props: []api.Prop{{Name: "p", Value: v}}}}}
					if got, want := Right(g), result(value.Right(v) && kind != api.Null); got != want {
						t.Errorf("%#v: %v", v, got)
					}
				}
			}
		}
	}
}
