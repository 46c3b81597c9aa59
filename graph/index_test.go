package graph

import (
	"math"
	"math/rand"
	"reflect"
	"slices"
	"strconv"
	"testing"

	"bridleway/api"
)

func indexOf(t *testing.T, g api.Graph) *Index {
	t.Helper()
	x, err := New(g)
	if err != api.OK || x == nil {
		t.Fatal(x, err)
	}
	return x
}

// noPlaces are beside each list of the graphs here.
func noPlaces(count int) []int {
	return []int{-1, -2, count, count + 1, 5000, -5000, 1 << 32, -1 << 32, math.MinInt, math.MaxInt}
}

func TestFind(t *testing.T) {
	g := sample()
	x := indexOf(t, g)
	for _, y := range []struct {
		name       string
		node, edge int
	}{
		{"a", 0, -1}, {"b", 1, 1}, {"c", 2, 2}, {"ab", -1, 0}, {"d", -1, 3},
		{"", -1, -1}, {"A", -1, -1}, {"B", -1, -1}, {"a ", -1, -1}, {"abc", -1, -1}, {"p", -1, -1}, {"E", -1, -1}, {"1", -1, -1}, {"\x00", -1, -1}, {"\xff", -1, -1},
	} {
		if i, ok := x.Find(y.name); ok != (y.node >= 0) || i != max(y.node, 0) {
			t.Errorf("Find %q: %d %v", y.name, i, ok)
		}
		if i, ok := x.FindEdge(y.name); ok != (y.edge >= 0) || i != max(y.edge, 0) {
			t.Errorf("FindEdge %q: %d %v", y.name, i, ok)
		}
	}
}

func TestFindOfMany(t *testing.T) {
	g := sized(1000, 1000)
	x := indexOf(t, g)
	for i := range 1000 {
		if k, ok := x.Find(g.Nodes[i].Name); k != i || !ok {
			t.Errorf("node %d: %d %v", i, k, ok)
		}
		if k, ok := x.FindEdge(g.Edges[i].Name); k != i || !ok {
			t.Errorf("edge %d: %d %v", i, k, ok)
		}
		if k, ok := x.Find(g.Edges[i].Name); k != 0 || ok {
			t.Errorf("no node %d: %d %v", i, k, ok)
		}
		if k, ok := x.FindEdge(g.Nodes[i].Name); k != 0 || ok {
			t.Errorf("no edge %d: %d %v", i, k, ok)
		}
	}
}

func TestPropsAndLabels(t *testing.T) {
	g := sample()
	x := indexOf(t, g)
	check := func(e api.Elem, labels []string, props []api.Prop) {
		t.Helper()
		if got := x.Labels(e); !slices.Equal(got, labels) {
			t.Errorf("Labels %v: %q, not %q", e, got, labels)
		}
		want := map[string]api.Value{}
		for _, p := range props {
			want[p.Name] = p.Value
		}
		for _, name := range []string{"p", "q", "r", "o", "_", "", "P", "pp", "s", "a", "A", "1", "\xff"} {
			if got := x.Prop(e, name); got != want[name] {
				t.Errorf("Prop %v %q: %v, not %v", e, name, got, want[name])
			}
		}
	}
	for i, n := range g.Nodes {
		check(api.Elem{ID: i}, n.Labels, n.Props)
	}
	for i, e := range g.Edges {
		check(api.Elem{Edge: true, ID: i}, e.Labels, e.Props)
	}
	check(api.Elem{ID: 3}, nil, nil) // there is an edge 3, but no node
	for _, id := range noPlaces(4) {
		check(api.Elem{ID: id}, nil, nil)
		check(api.Elem{Edge: true, ID: id}, nil, nil)
	}
}

// TestAllValues: what is told is what was handed in, bit by bit.
func TestAllValues(t *testing.T) {
	g := sample()
	for i, v := range rightValues() {
		name := "v" + strconv.Itoa(100+i)
		g.Nodes[2].Props = append(g.Nodes[2].Props, api.Prop{Name: name, Value: v})
		g.Edges[3].Props = append(g.Edges[3].Props, api.Prop{Name: name, Value: v})
	}
	x := indexOf(t, g)
	for i, v := range rightValues() {
		for _, e := range []api.Elem{{ID: 2}, {Edge: true, ID: 3}} {
			got := x.Prop(e, "v"+strconv.Itoa(100+i))
			if got.Kind != v.Kind || got.N != v.N || got.S != v.S || math.Float64bits(got.F) != math.Float64bits(v.F) {
				t.Errorf("%v: %#v, not %#v", e, got, v)
			}
		}
	}
}

// steps are pairs of an edge and a node.
func steps(l ...int) []Step {
	var out []Step
	for i := 0; i < len(l); i += 2 {
		out = append(out, Step{Edge: l[i], To: l[i+1]})
	}
	return out
}

func checkOut(t *testing.T, x *Index, node, dir int, want []Step) {
	t.Helper()
	if got := x.Out(node, dir); !slices.Equal(got, want) {
		t.Errorf("Out %d %d: %v, not %v", node, dir, got, want)
	}
}

// otherBits is directions with what does not matter.
func otherBits(dir int) []int {
	return []int{dir, dir | 8, dir | 64, dir | 1<<20, dir | 1<<40, dir | math.MinInt, dir | -8, dir | math.MaxInt&^7}
}

// TestOneEdge: from a node to itself, or to another one, directed or not, by each set of directions.
func TestOneEdge(t *testing.T) {
	const left, flat, right = api.Left, api.Flat, api.Right
	there, back, loop := steps(0, 1), steps(0, 0), steps(0, 0)
	for _, y := range []struct {
		edge api.Edge
		node int
		dirs []int // by which it leads
		want []Step
	}{
		{api.Edge{To: 1, Directed: true}, 0, []int{right, right + left, right + flat, 7}, there},
		{api.Edge{To: 1, Directed: true}, 1, []int{left, left + right, left + flat, 7}, back},
		{api.Edge{To: 1}, 0, []int{flat, flat + left, flat + right, 7}, there},
		{api.Edge{To: 1}, 1, []int{flat, flat + left, flat + right, 7}, back},
		{api.Edge{From: 1, Directed: true}, 0, []int{left, left + right, left + flat, 7}, there},
		{api.Edge{From: 1, Directed: true}, 1, []int{right, right + left, right + flat, 7}, back},
		{api.Edge{From: 1}, 0, []int{flat, flat + left, flat + right, 7}, there},
		{api.Edge{From: 1}, 1, []int{flat, flat + left, flat + right, 7}, back},
		{api.Edge{Directed: true}, 0, []int{left, right, left + right, left + flat, right + flat, 7}, loop},
		{api.Edge{}, 0, []int{flat, flat + left, flat + right, 7}, loop},
		{api.Edge{Directed: true}, 1, nil, nil},
		{api.Edge{}, 1, nil, nil},
		{api.Edge{To: 1, Directed: true}, 2, nil, nil},
		{api.Edge{To: 1}, 2, nil, nil},
	} {
		y.edge.Name = "e"
		x := indexOf(t, api.Graph{Nodes: []api.Node{{Name: "a"}, {Name: "b"}, {Name: "c"}}, Edges: []api.Edge{y.edge}})
		for dir := range 8 {
			var want []Step
			if slices.Contains(y.dirs, dir) {
				want = y.want
			}
			for _, d := range otherBits(dir) {
				checkOut(t, x, y.node, d, want)
			}
		}
	}
}

func TestOut(t *testing.T) {
	x := indexOf(t, sample())
	for _, y := range []struct {
		node, dir int
		want      []Step
	}{
		{0, api.Right, steps(0, 1)}, {0, api.Left, nil}, {0, api.Flat, nil}, {0, 7, steps(0, 1)}, {0, 3, nil},
		{1, api.Right, nil}, {1, api.Left, steps(0, 0)}, {1, api.Flat, steps(1, 2)}, {1, 7, steps(0, 0, 1, 2)}, {1, 3, steps(0, 0, 1, 2)}, {1, 5, steps(0, 0)}, {1, 6, steps(1, 2)},
		{2, api.Right, steps(2, 2)}, {2, api.Left, steps(2, 2)}, {2, 5, steps(2, 2)}, {2, api.Flat, steps(1, 1, 3, 2)}, {2, 7, steps(1, 1, 2, 2, 3, 2)}, {2, -1, steps(1, 1, 2, 2, 3, 2)},
		{0, 0, nil}, {1, 0, nil}, {2, 0, nil}, {2, 8, nil}, {2, -8, nil}, {2, math.MinInt, nil},
	} {
		checkOut(t, x, y.node, y.dir, y.want)
	}
	for _, node := range noPlaces(3) {
		for dir := range 8 {
			checkOut(t, x, node, dir, nil)
		}
	}
}

// outOf is Out by the letter: each edge is asked by each direction.
func outOf(g api.Graph, node, dir int) []Step {
	var out []Step
	for i, e := range g.Edges {
		tos := []int{}
		if e.Directed && dir&api.Right != 0 && e.From == node {
			tos = append(tos, e.To)
		}
		if e.Directed && dir&api.Left != 0 && e.To == node {
			tos = append(tos, e.From)
		}
		if !e.Directed && dir&api.Flat != 0 && e.From == node {
			tos = append(tos, e.To)
		}
		if !e.Directed && dir&api.Flat != 0 && e.To == node {
			tos = append(tos, e.From)
		}
		if len(tos) > 0 {
			out = append(out, Step{i, tos[0]}) // if there are two, it is from a node to itself
		}
	}
	return out
}

func randomGraph(r *rand.Rand, nodes, edges int) api.Graph {
	g := sized(nodes, edges)
	for i := range g.Edges {
		g.Edges[i].From, g.Edges[i].To, g.Edges[i].Directed = r.Intn(nodes), r.Intn(nodes), r.Intn(2) == 0
	}
	return g
}

func TestOutOfMany(t *testing.T) {
	r := rand.New(rand.NewSource(1))
	for range 300 {
		nodes := 1 + r.Intn(6)
		g := randomGraph(r, nodes, r.Intn(20))
		x := indexOf(t, g)
		for node := -1; node <= nodes; node++ {
			for dir := range 16 {
				checkOut(t, x, node, dir, outOf(g, node, dir))
			}
		}
	}
	g := randomGraph(r, 1000, 1000)
	x := indexOf(t, g)
	for node := range 1000 {
		checkOut(t, x, node, 1+node%7, outOf(g, node, 1+node%7))
	}
	star := sized(1, 1000)
	for i := range star.Edges {
		star.Edges[i].Directed = true
	}
	all := indexOf(t, star).Out(0, api.Left+api.Right)
	if len(all) != 1000 || !slices.IsSortedFunc(all, func(a, b Step) int { return a.Edge - b.Edge }) {
		t.Error(len(all))
	}
}

// TestRightIsLeft: what leads there by Right leads back by Left, and by Flat both ways.
func TestRightIsLeft(t *testing.T) {
	r := rand.New(rand.NewSource(2))
	for range 200 {
		g := randomGraph(r, 1+r.Intn(5), r.Intn(15))
		x := indexOf(t, g)
		for a := range g.Nodes {
			for there, back := range map[int]int{api.Right: api.Left, api.Left: api.Right, api.Flat: api.Flat} {
				for _, s := range x.Out(a, there) {
					if !slices.Contains(x.Out(s.To, back), Step{s.Edge, a}) {
						t.Errorf("%v: %v from %d by %d", g.Edges, s, a, there)
					}
				}
			}
		}
	}
}

func TestNoNodes(t *testing.T) {
	x := indexOf(t, api.Graph{})
	if g := x.Graph(); len(g.Nodes) > 0 || len(g.Edges) > 0 {
		t.Errorf("%v", g)
	}
	if i, ok := x.Find(""); i != 0 || ok {
		t.Error(i, ok)
	}
	if i, ok := x.FindEdge("a"); i != 0 || ok {
		t.Error(i, ok)
	}
	for _, id := range []int{-1, 0, 1} {
		checkOut(t, x, id, 7, nil)
		for _, edge := range []bool{false, true} {
			e := api.Elem{Edge: edge, ID: id}
			if v, l := x.Prop(e, "p"), x.Labels(e); v != (api.Value{}) || len(l) > 0 {
				t.Errorf("%v: %v %q", e, v, l)
			}
		}
	}
}

func TestGraph(t *testing.T) {
	for _, g := range []api.Graph{sample(), sized(1000, 1000), sized(3, 0), {Nodes: []api.Node{{Name: "a", Labels: []string{}}}}} {
		if got := indexOf(t, g).Graph(); !same(got, g) {
			t.Errorf("%v, not %v", got, g)
		}
	}
}

// told is all that x tells of sample.
func told(x *Index) []any {
	l := []any{x.Graph()}
	for _, name := range []string{"a", "b", "c", "d", "ab", "x"} {
		i, ok := x.Find(name)
		k, found := x.FindEdge(name)
		l = append(l, i, ok, k, found)
	}
	for id := -1; id < 5; id++ {
		for dir := range 8 {
			l = append(l, x.Out(id, dir))
		}
		for _, e := range []api.Elem{{ID: id}, {Edge: true, ID: id}} {
			l = append(l, x.Labels(e))
			for _, name := range []string{"p", "q", "r", "o", "_", "x"} {
				l = append(l, x.Prop(e, name))
			}
		}
	}
	return l
}

// overwrite changes all of g that there is, with what stands behind its lists.
func overwrite(g api.Graph) {
	for _, n := range g.Nodes {
		overwriteLists(n.Labels, n.Props)
	}
	for _, e := range g.Edges {
		overwriteLists(e.Labels, e.Props)
	}
	nodes, edges := g.Nodes[:cap(g.Nodes)], g.Edges[:cap(g.Edges)]
	for i := range nodes {
		nodes[i] = api.Node{Name: "x", Labels: []string{"X"}, Props: named([]string{"x"})}
	}
	for i := range edges {
		edges[i] = api.Edge{Name: "x", From: 1, To: 0, Directed: i%2 == 0, Labels: []string{"X"}, Props: named([]string{"x"})}
	}
}

func overwriteLists(labels []string, props []api.Prop) {
	labels, props = labels[:cap(labels)], props[:cap(props)]
	for i := range labels {
		labels[i] = "x"
	}
	for i := range props {
		props[i] = api.Prop{Name: "x", Value: whole(9)}
	}
}

func wantSame(t *testing.T, what string, x *Index) {
	t.Helper()
	if got, want := told(x), told(indexOf(t, sample())); !reflect.DeepEqual(got, want) {
		t.Errorf("%s: %v, not %v", what, got, want)
	}
}

// TestOwn: what was handed in, and what was told, may be written over by whoever has it.
func TestOwn(t *testing.T) {
	g := sample()
	x := indexOf(t, g)
	wantSame(t, "made", x)
	told(x)
	if !reflect.DeepEqual(g, sample()) {
		t.Errorf("handed in: %v", g)
	}
	overwrite(g)
	wantSame(t, "handed in", x)
	kept := x.Graph()
	overwrite(x.Graph())
	wantSame(t, "Graph", x)
	for id := range 4 {
		overwriteLists(x.Labels(api.Elem{ID: id}), nil)
		overwriteLists(x.Labels(api.Elem{Edge: true, ID: id}), nil)
		for dir := range 8 {
			l := x.Out(id, dir)
			l = l[:cap(l)]
			for i := range l {
				l[i] = Step{-1, -1}
			}
		}
	}
	wantSame(t, "Labels, Out", x)
	if !reflect.DeepEqual(kept, sample()) {
		t.Errorf("told before: %v", kept)
	}
}

// TestListsApart: lists that were one in what was handed in are several in what is told.
func TestListsApart(t *testing.T) {
	labels, props := []string{"A", "B"}, named([]string{"p", "q"})
	g := api.Graph{Nodes: []api.Node{{Name: "a", Labels: labels, Props: props}, {Name: "b", Labels: labels, Props: props}}, Edges: []api.Edge{{Name: "e", Labels: labels[:1], Props: props[:1]}}}
	want := copied(g)
	x := indexOf(t, g)
	got := x.Graph()
	overwriteLists(got.Nodes[0].Labels, got.Nodes[0].Props)
	overwriteLists(got.Edges[0].Labels, got.Edges[0].Props)
	if !reflect.DeepEqual(got.Nodes[1], want.Nodes[1]) || !reflect.DeepEqual(x.Graph(), want) || !reflect.DeepEqual(g, want) {
		t.Errorf("%v %v %v", got, x.Graph(), g)
	}
	if more := append(g.Edges[0].Labels, "X"); x.Labels(api.Elem{ID: 1})[1] != "B" {
		t.Error(more)
	}
}

// TestTwoIndexes: two of one graph, and two of others, have nothing to do with each other.
func TestTwoIndexes(t *testing.T) {
	g := sample()
	x, y := indexOf(t, g), indexOf(t, g)
	overwrite(x.Graph())
	wantSame(t, "of one graph", y)
	z := indexOf(t, sized(5, 5))
	told(z)
	wantSame(t, "of another one", x)
	if _, err := New(api.Graph{Nodes: make([]api.Node, 1)}); err != api.ErrArg {
		t.Error(err)
	}
	wantSame(t, "of a wrong one", x)
}

// TestLeadsStops: whoever has enough of them gets no more.
func TestLeadsStops(t *testing.T) {
	var all []lead
	for _, l := range leads(sample().Edges) {
		all = append(all, l)
	}
	for most := 1; most <= len(all); most++ {
		var some []lead
		for _, l := range leads(sample().Edges) {
			some = append(some, l)
			if len(some) == most {
				break
			}
		}
		if !slices.Equal(some, all[:most]) {
			t.Errorf("%v, not %v", some, all[:most])
		}
	}
}
