package sum

import (
	"math"
	"reflect"
	"strconv"
	"strings"
	"testing"

	"bridleway/api"
	"bridleway/load"
)

func whole(n int64) api.Value { return api.Value{Kind: api.Int, N: n} }

func float(f float64) api.Value { return api.Value{Kind: api.Float, F: f} }

func text(s string) api.Value { return api.Value{Kind: api.Text, S: s} }

func truth(n int64) api.Value { return api.Value{Kind: api.Bool, N: n} }

// nodes is a graph of these, without edges.
func nodes(l ...api.Node) api.Graph { return api.Graph{Nodes: l} }

// edges is a graph of nodes a and b, and of these.
func edges(l ...api.Edge) api.Graph {
	return api.Graph{Nodes: []api.Node{{Name: "a"}, {Name: "b"}}, Edges: l}
}

// property is a graph of one node with that property.
func property(name string, v api.Value) api.Graph {
	return nodes(api.Node{Name: "a", Props: []api.Prop{{Name: name, Value: v}}})
}

// wantSource holds a graph's sum to that of a source.
func wantSource(t *testing.T, g api.Graph, source string) {
	t.Helper()
	want := another([]byte(source))
	if got, e := Graph(g); got != want || e != api.OK {
		t.Errorf("%v: %X %v, not %X, of %q", g, got, e, want, source)
	}
}

// wantNone holds Graph to an error, and to nothing beside it.
func wantNone(t *testing.T, g api.Graph, want api.Errno) {
	t.Helper()
	if got, e := Graph(g); got != 0 || e != want {
		t.Errorf("%d nodes, %d edges: %X %v, not %v", len(g.Nodes), len(g.Edges), got, e, want)
	}
}

// parsed is the graph of a source that is right.
func parsed(t *testing.T, source string) api.Graph {
	t.Helper()
	g, line, e := load.Parse([]byte(source))
	if e != api.OK {
		t.Fatalf("%q: line %d: %v", source, line, e)
	}
	return g
}

func TestGraphExamples(t *testing.T) {
	for _, g := range []api.Graph{{}, {Nodes: []api.Node{}, Edges: []api.Edge{}}} {
		if got, e := Graph(g); got != 14695981039346656037 || e != api.OK {
			t.Errorf("%X %v", got, e)
		}
	}
	if got, e := Graph(nodes(api.Node{Name: "a"})); got != Sum([]byte("node a\n")) || got != 0xBC25A9DD6D03B098 || e != api.OK {
		t.Errorf("%X %v", got, e)
	}
}

func TestGraph(t *testing.T) {
	wantSource(t, nodes(api.Node{Name: "b"}, api.Node{Name: "a"}), "node b\nnode a\n")
	wantSource(t, nodes(api.Node{Name: "a", Labels: []string{"A", "B"}}), "node a :A :B\n")
	wantSource(t, edges(
		api.Edge{Name: "e", To: 1, Directed: true},
		api.Edge{Name: "d", From: 1, Labels: []string{"A"}, Props: []api.Prop{{Name: "p", Value: whole(-1)}, {Name: "q", Value: text("it's #\n")}}},
	), "node a\nnode b\nedge e a -> b\nedge d b -- a :A p=-1 q='it\\'s #\\n'\n")
	for s, v := range map[string]api.Value{
		"true": truth(1), "false": truth(0), "0": whole(0), "-9223372036854775808": whole(math.MinInt64), "0p0": float(0), "-0p0": float(math.Copysign(0, -1)), "3p-1": float(1.5), "nan": float(math.NaN()), "-inf": float(math.Inf(-1)), "''": text(""), "'\x00\xff\x80'": text("\x00\xff\x80"), "'é'": text("é"),
	} {
		wantSource(t, property("p", v), "node a p="+s+"\n")
	}
}

func TestGraphOfMany(t *testing.T) {
	var g api.Graph
	var b strings.Builder
	for i := range 1000 {
		g.Nodes = append(g.Nodes, api.Node{Name: "n" + strconv.Itoa(i), Labels: []string{"A"}})
		b.WriteString("node n" + strconv.Itoa(i) + " :A\n")
	}
	for i := range 1000 {
		g.Edges = append(g.Edges, api.Edge{Name: "e" + strconv.Itoa(i), From: i, To: 999 - i, Directed: i%2 > 0})
		b.WriteString("edge e" + strconv.Itoa(i) + " n" + strconv.Itoa(i) + []string{" -- n", " -> n"}[i%2] + strconv.Itoa(999-i) + "\n")
	}
	wantSource(t, g, b.String())
	long := strings.Repeat("x\xfe", 1<<20)
	wantSource(t, property("p", text(long)), "node a p='"+long+"'\n")
}

func TestGraphOfWrong(t *testing.T) {
	for _, g := range []api.Graph{
		nodes(api.Node{}), nodes(api.Node{Name: "a b"}), nodes(api.Node{Name: "a"}, api.Node{Name: "a"}), nodes(api.Node{Name: "a"}, api.Node{}),
		nodes(api.Node{Name: "a", Labels: []string{"B", "A"}}), nodes(api.Node{Name: "a", Labels: []string{"A", "A"}}), nodes(api.Node{Name: "a", Labels: []string{""}}),
		property("", whole(1)), property("p", api.Value{}), property("p", truth(2)), property("p", api.Value{Kind: 9}), property("p", api.Value{Kind: api.Int, S: "x"}), property("p", float(math.Float64frombits(0xFFF8000000000001))),
		edges(api.Edge{}), edges(api.Edge{Name: "e", From: -1}), edges(api.Edge{Name: "e", To: 2}), edges(api.Edge{Name: "e"}, api.Edge{Name: "e"}), {Edges: []api.Edge{{Name: "e"}}},
	} {
		wantNone(t, g, api.ErrArg)
	}
	// Of both errors it is the limit.
	for _, g := range []api.Graph{{Nodes: make([]api.Node, 1001)}, {Edges: make([]api.Edge, 1001)}, {Nodes: make([]api.Node, 1001), Edges: make([]api.Edge, 1001)}} {
		wantNone(t, g, api.ErrLimit)
	}
}

// What is one graph has one sum, however it was said.
func TestGraphOfTheSame(t *testing.T) {
	one := parsed(t, "node a :A :B p=1 q='x'\nnode b\nedge e a -> b\n")
	want, _ := Graph(one)
	two := parsed(t, "# two\n\n  node   a :B :A  q='x'   p=1 # a\nnode b # b\n edge e  a ->   b ")
	three := one
	three.Nodes = append([]api.Node{}, one.Nodes...)
	three.Nodes[1].Labels, three.Nodes[1].Props = []string{}, []api.Prop{}
	for _, g := range []api.Graph{one, two, three} {
		if got, e := Graph(g); got != want || e != api.OK {
			t.Errorf("%v: %X %v, not %X", g, got, e, want)
		}
	}
}

// What differs in anything has, of so few, a sum of its own.
func TestGraphOfUnlike(t *testing.T) {
	seen := map[uint64]string{}
	for _, s := range []string{
		"", "node a", "node b", "node A", "node a\nnode b", "node b\nnode a", "node a :A", "node a :B", "node a :A :B", "node a p=1", "node a q=1", "node a p=2", "node a p='1'", "node a p=1p0", "node a p=0p0", "node a p=-0p0", "node a p=true", "node a p='true'", "node a p=1 q=1", "node a :p",
		"node a\nnode b\nedge e a -> b", "node a\nnode b\nedge e a -- b", "node a\nnode b\nedge e b -> a", "node a\nnode b\nedge e b -- a", "node a\nnode b\nedge e a -> a", "node a\nnode b\nedge f a -> b", "node a\nnode b\nedge e a -> b :A", "node a\nnode b\nedge e a -> b p=1", "node b\nnode a\nedge e a -> b",
		"node a\nnode b\nedge e a -> b\nedge f a -> b", "node a\nnode b\nedge f a -> b\nedge e a -> b",
	} {
		got, e := Graph(parsed(t, s))
		if was, ok := seen[got]; ok || e != api.OK {
			t.Errorf("%q and %q: %X %v", was, s, got, e)
		}
		seen[got] = s
	}
}

func TestGraphLeavesTheGraph(t *testing.T) {
	source := "node a :A :B p=1 q=-0p0\nnode b\nedge e a -> b :A :B p='x' q=2\n"
	g, was := parsed(t, source), parsed(t, source)
	want, _ := Graph(g)
	if !reflect.DeepEqual(g, was) {
		t.Errorf("written over: %v", g)
	}
	g.Nodes[0].Labels[1], g.Edges[0].Props[1].Name = "C", "r"
	if got, _ := Graph(g); got == want {
		t.Errorf("the graph as it was: %X", got)
	}
	if got, _ := Graph(was); got != want {
		t.Errorf("%X, not %X", got, want)
	}
}
