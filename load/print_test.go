package load

import (
	"math"
	"strings"
	"testing"

	"bridleway/api"
)

// wantSource holds Print to a source, which is that graph's again.
func wantSource(t *testing.T, g api.Graph, want string) {
	t.Helper()
	if got, e := Print(g); got != want || e != api.OK {
		t.Errorf("%v: %q %v, not %q", g, got, e, want)
	}
	wantGraph(t, want, g)
}

func TestPrint(t *testing.T) {
	wantSource(t, api.Graph{}, "")
	wantSource(t, api.Graph{Nodes: []api.Node{}, Edges: []api.Edge{}}, "")
	wantSource(t, nodes(api.Node{Name: "a"}), "node a\n")
	wantSource(t, nodes(api.Node{Name: "b", Labels: []string{}}, api.Node{Name: "a", Props: []api.Prop{}}), "node b\nnode a\n")
	wantSource(t, nodes(api.Node{Name: "a", Labels: []string{"A", "B", "_"}}), "node a :A :B :_\n")
	wantSource(t, nodes(api.Node{Name: "a", Props: []api.Prop{{Name: "p", Value: whole(-1)}, {Name: "q", Value: truth(0)}}}), "node a p=-1 q=false\n")
	wantSource(t, edges(
		api.Edge{Name: "e", To: 1, Directed: true},
		api.Edge{Name: "d", From: 1, Directed: true, Labels: []string{"A", "B"}},
		api.Edge{Name: "a", From: 1, To: 1, Props: []api.Prop{{Name: "p", Value: whole(1)}}},
		api.Edge{Name: "b", To: 1, Labels: []string{"A"}, Props: []api.Prop{{Name: "p", Value: text("")}}},
	), "node a\nnode b\nedge e a -> b\nedge d b -> a :A :B\nedge a b -- b p=1\nedge b a -- b :A p=''\n")
}

func TestPrintValues(t *testing.T) {
	for want, v := range map[string]api.Value{
		"false": truth(0), "true": truth(1), "0": whole(0), "-9223372036854775808": whole(math.MinInt64), "9223372036854775807": whole(math.MaxInt64),
		"0p0": float(0), "-0p0": float(math.Copysign(0, -1)), "5p1": float(10), "1p-1074": float(math.SmallestNonzeroFloat64), "nan": float(math.NaN()), "inf": float(math.Inf(1)), "-inf": float(math.Inf(-1)),
		"''": text(""), "'  '": text("  "), "' # '": text(" # "), `'it\'s'`: text("it's"), `'\\n\n'`: text("\\n\n"), "'\x00\xff\r\t'": text("\x00\xff\r\t"), "'null'": text("null"),
	} {
		wantSource(t, nodes(api.Node{Name: "a", Props: []api.Prop{{Name: "p", Value: v}, {Name: "q", Value: v}}}), "node a p="+want+" q="+want+"\n")
		wantSource(t, edges(api.Edge{Name: "e", Labels: []string{"A"}, Props: []api.Prop{{Name: "p", Value: v}}}), "node a\nnode b\nedge e a -- a :A p="+want+"\n")
	}
}

func TestPrintOfWrong(t *testing.T) {
	for _, g := range []api.Graph{
		nodes(api.Node{}), nodes(api.Node{Name: "a b"}), nodes(api.Node{Name: "1"}), nodes(api.Node{Name: strings.Repeat("x", 41)}), nodes(api.Node{Name: "a"}, api.Node{Name: "a"}),
		nodes(api.Node{Name: "a", Labels: []string{"B", "A"}}), nodes(api.Node{Name: "a", Labels: []string{"A", "A"}}), nodes(api.Node{Name: "a", Labels: []string{":A"}}),
		nodes(api.Node{Name: "a", Props: []api.Prop{{Name: "q", Value: whole(1)}, {Name: "p", Value: whole(1)}}}), nodes(api.Node{Name: "a", Props: []api.Prop{{Name: "p", Value: whole(1)}, {Name: "p", Value: whole(1)}}}),
		nodes(api.Node{Name: "a", Props: []api.Prop{{Name: "p"}}}), nodes(api.Node{Name: "a", Props: []api.Prop{{Name: "p", Value: api.Value{Kind: api.Bool, N: 2}}}}), nodes(api.Node{Name: "a", Props: []api.Prop{{Name: "p", Value: api.Value{Kind: 9}}}}), nodes(api.Node{Name: "a", Props: []api.Prop{{Name: "p", Value: float(math.Float64frombits(0xFFF8000000000001))}}}),
		edges(api.Edge{Name: "e", From: -1}), edges(api.Edge{Name: "e", To: 2}), edges(api.Edge{Name: "e"}, api.Edge{Name: "e"}), edges(api.Edge{}), {Edges: []api.Edge{{Name: "e"}}},
	} {
		if s, e := Print(g); s != "" || e != api.ErrArg {
			t.Errorf("%v: %q %v", g, s, e)
		}
	}
	for _, g := range []api.Graph{{Nodes: make([]api.Node, 1001)}, {Edges: make([]api.Edge, 1001)}} {
		if s, e := Print(g); s != "" || e != api.ErrLimit {
			t.Errorf("%d %d: %q %v", len(g.Nodes), len(g.Edges), s, e)
		}
	}
}

func TestPrintOfMost(t *testing.T) {
	source := many(1000, "node n", " :A p='x'") + many(1000, "edge e", " n0 -- n999 q=1")
	g, _, e := Parse([]byte(source))
	if s, e2 := Print(g); s != source || e != api.OK || e2 != api.OK {
		t.Errorf("%d bytes, %v %v", len(s), e, e2)
	}
}

func TestPrintLeavesTheGraph(t *testing.T) {
	source := "node a :A :B p=1 q=nan\nnode b\nedge e a -> b :A :B p='x' q=2\n"
	g, _, _ := Parse([]byte(source))
	// Room behind a list is the caller's too.
	labels := append(make([]string, 0, 9), g.Nodes[0].Labels...)
	g.Nodes[0].Labels = labels
	s, _ := Print(g)
	wantGraph(t, source, g)
	if labels = labels[:9]; labels[2] != "" || s != source {
		t.Errorf("%q %q", labels, s)
	}
}
