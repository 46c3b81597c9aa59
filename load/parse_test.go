package load

import (
	"math"
	"reflect"
	"slices"
	"strconv"
	"strings"
	"testing"

	"bridleway/api"
	"bridleway/graph"
)

func whole(n int64) api.Value { return api.Value{Kind: api.Int, N: n} }

func float(f float64) api.Value { return api.Value{Kind: api.Float, F: f} }

func text(s string) api.Value { return api.Value{Kind: api.Text, S: s} }

func truth(n int64) api.Value { return api.Value{Kind: api.Bool, N: n} }

// nodes is a graph of these, without edges.
func nodes(l ...api.Node) api.Graph { return api.Graph{Nodes: l} }

// edges is a graph of nodes a and b, and of these.
func edges(l ...api.Edge) api.Graph {
	return api.Graph{Nodes: []api.Node{{Name: "a"}, {Name: "b"}}, Edges: l}
}

// same takes lists without items for one, be they nil or empty, and floats for one by their bits.
func same(a, b api.Graph) bool {
	return slices.EqualFunc(a.Nodes, b.Nodes, func(x, y api.Node) bool {
		return x.Name == y.Name && slices.Equal(x.Labels, y.Labels) && slices.EqualFunc(x.Props, y.Props, sameProp)
	}) && slices.EqualFunc(a.Edges, b.Edges, func(x, y api.Edge) bool {
		return x.Name == y.Name && x.From == y.From && x.To == y.To && x.Directed == y.Directed && slices.Equal(x.Labels, y.Labels) && slices.EqualFunc(x.Props, y.Props, sameProp)
	})
}

func sameProp(x, y api.Prop) bool {
	v, w := x.Value, y.Value
	return x.Name == y.Name && v.Kind == w.Kind && v.N == w.N && v.S == w.S && math.Float64bits(v.F) == math.Float64bits(w.F)
}

// wantGraph holds Parse to a graph, which is right whatever the source.
func wantGraph(t *testing.T, source string, want api.Graph) {
	t.Helper()
	b := []byte(source)
	g, line, e := Parse(b)
	if !same(g, want) || line != 0 || e != api.OK {
		t.Errorf("%q: %v %d %v, not %v", source, g, line, e, want)
	}
	if e := graph.Right(g); e != api.OK {
		t.Errorf("%q: the graph is not right: %v", source, e)
	}
	if string(b) != source {
		t.Errorf("%q: written over", source)
	}
}

// wantWrong holds Parse to which line is wrong, and how; beside that nothing is told.
func wantWrong(t *testing.T, source string, line int, e api.Errno) {
	t.Helper()
	b := []byte(source)
	g, gotLine, got := Parse(b)
	if !reflect.DeepEqual(g, api.Graph{}) || gotLine != line || got != e {
		t.Errorf("%q: %v %d %v, not %d %v", source, g, gotLine, got, line, e)
	}
	if string(b) != source {
		t.Errorf("%q: written over", source)
	}
}

func TestParseExamples(t *testing.T) {
	wantGraph(t, "node a :L p=1\nedge e a -> a", api.Graph{
		Nodes: []api.Node{{Name: "a", Labels: []string{"L"}, Props: []api.Prop{{Name: "p", Value: whole(1)}}}},
		Edges: []api.Edge{{Name: "e", Directed: true}},
	})
	wantGraph(t, "# two\nnode a\nnode b\nedge e a -- b :K :L p=true q='x' # one\nedge f b -> a\n", edges(
		api.Edge{Name: "e", To: 1, Labels: []string{"K", "L"}, Props: []api.Prop{{Name: "p", Value: truth(1)}, {Name: "q", Value: text("x")}}},
		api.Edge{Name: "f", From: 1, Directed: true},
	))
}

func TestParseNothing(t *testing.T) {
	for _, s := range []string{"", "\n", "\n\n\n", " ", "    ", " \n  \n", "#", "#\n", "# node a", "#node a\n##", "  # x\n\n   #\n ", "#\r", "#\x00\xff'", "# 'a\n#b'\n", "#\tnode\n"} {
		wantGraph(t, s, api.Graph{})
	}
	if g, line, e := Parse(nil); !reflect.DeepEqual(g, api.Graph{}) || line != 0 || e != api.OK {
		t.Errorf("nil: %v %d %v", g, line, e)
	}
}

func TestParseBlanksAndRemarks(t *testing.T) {
	a, b := api.Node{Name: "a"}, api.Node{Name: "b"}
	for _, s := range []string{"node a", "node a\n", "node a\n\n\n", "\n\nnode a", " \n#\n  node   a   \n   ", "node a #", "node a # b", "node a #b :A p=1", "node a # :A\n# node b", "node a    #'", "node a # :1 \x00"} {
		wantGraph(t, s, nodes(a))
	}
	for _, s := range []string{"node a\nnode b", "node a\nnode b\n", "node a \n\n # x\n  node b", "node a # node c\nnode b #node d\n"} {
		wantGraph(t, s, nodes(a, b))
	}
	wantGraph(t, "node b\nnode a", nodes(b, a))
	want := edges(api.Edge{Name: "e", To: 1, Directed: true, Labels: []string{"L"}, Props: []api.Prop{{Name: "p", Value: whole(1)}, {Name: "q", Value: text(" ")}}})
	for _, s := range []string{"edge e a -> b :L p=1 q=' '", "  edge  e   a    ->  b   :L  p=1   q=' '   ", "edge e a -> b :L p=1 q=' ' #", "edge e a -> b :L p=1 q=' ' # r=3", "edge e a -> b :L p=1 q=' '  #r=3"} {
		wantGraph(t, "node a\nnode b\n"+s, want)
		wantGraph(t, "  node  a \n#\n\nnode b\n"+s+"\n", want)
	}
}

func TestParseWords(t *testing.T) {
	long := strings.Repeat("x", 40)
	for _, w := range []string{"a", "Z", "_", "__", "a1", "_9", "node", "edge", "Node", "null", "nan", "true", long, "A" + strings.Repeat("9", 39)} {
		wantGraph(t, "node "+w+" :"+w+" "+w+"=1\nedge "+w+" "+w+" -> "+w+" :"+w+" "+w+"=1", api.Graph{
			Nodes: []api.Node{{Name: w, Labels: []string{w}, Props: []api.Prop{{Name: w, Value: whole(1)}}}},
			Edges: []api.Edge{{Name: w, Directed: true, Labels: []string{w}, Props: []api.Prop{{Name: w, Value: whole(1)}}}},
		})
	}
	for _, w := range []string{"1", "1a", "-", "->", "--", ":", ":a", "a:", "a-b", "a.b", "a#", "a#b", "a'", "'a'", "'a", "a=1", "=", "\u00e4", "a\u00e4", "a\xff", "\x00", "a\x00", "a\r", "a\t", "\ta", "a\v", "a\u00a0", "\ufeffa", long + "x"} {
		for _, s := range []string{"node " + w, "node " + w + " :A", "node a :" + w, "node a :A :" + w + " p=1", "node a " + w + "=1", "node a p=1 " + w + "=1"} {
			wantWrong(t, s, 1, api.ErrSyntax)
		}
		for _, s := range []string{"edge " + w + " a -> a", "edge e " + w + " -> a", "edge e a -> " + w, "edge e a -- " + w, "edge e a -> a :" + w, "edge e a -- a " + w + "=1"} {
			wantWrong(t, "node a\n"+s, 2, api.ErrSyntax)
		}
	}
}

func TestParseSyntax(t *testing.T) {
	for _, s := range []string{
		"node", " node ", "node #", "node # a", "nod a", "nodes a", "Node a", "NODE a", "node\ta", "node\u00a0a", "node\ra", "\rnode a", "\r", "\t", "nodea", "node:a", "a", "a node", "x", ":A", "p=1", "->", "'", "'a # b", "''", "\x00", "\xff", "node a\r", "\ufeffnode a", "node=1", "edges", "edges e z -> z",
		"node a b", "node a b :A", "node a ->", "node a --", "node a -> a", "node a node", "node a node b",
		"edge", "edge e", "edge e z", "edge e z ->", "edge e z -> #", "edge e z # -> z", "edge e # z -> z", "edge # e z -> z", "edge e z z", "edge e z z ->", "edge e -> z z", "edge e z -> z z", "edge e -> z", "edge z -> z", "edge e z => z", "edge e z <- z", "edge e z - z", "edge e z > z", "edge e z -- -> z", "edge e z ->z", "edge e z->z", "edge e z-> z", "edge e z --z", "edge e z --> z", "edge e z --- z", "edge e z ->> z", "edge e z - > z", "edge e z \u2192 z", "edge e z :A -> z", "edge e z -> :A", "edge e z -> z -> z", "edge e z ->#", "edge e z -># z", "edge :A e z -> z", "node e z -> z", "edge e", "edge z :A", "edge e z -> z p", "edge e z -> z p=1 :A",
		"node a :", "node a : A", "node a ::A", "node a :A:B", "node a :A :", "node a :#", "node a A", "node a :A B", "node a :A,B", "node a :A=1", "node a :A#B", "node a :'A'", "node :A", "node :A a", "node a:A", "node a :A\t:B", "node a :A->",
		"node a p", "node a p :A", "node a p=", "node a p= 1", "node a p =1", "node a p = 1", "node a =1", "node a =", "node a p==1", "node a p:1", "node a p=1=2", "node a p=1 q", "node a p=1 q=", "node a p=1 2", "node a p=q", "node a p=1,q=2", "node a p.q=1", "node a 'p'=1", "node a p=1 'x'", "node a p=\t1", "node a p=1\t", "node a p #=1", "node a p# =1", "node a p=#", "node a p=# 1", "node a p=1#", "node a p=1# x", "node a p='x'#", "node a p='x'# y", "node a p#q=1", "node p=1", "node p=1 a", "node a q p=1",
		"node a p=1 :A", "node a :A p=1 :B", "node a p='x' :B", "node a p=1 q=2 : ",
	} {
		wantWrong(t, s, 1, api.ErrSyntax)
		wantWrong(t, "node z\n\n# x\n"+s+"\nnode z", 4, api.ErrSyntax)
	}
}

func TestParseValues(t *testing.T) {
	for s, v := range map[string]api.Value{
		"false": truth(0), "true": truth(1),
		"0": whole(0), "-1": whole(-1), "9223372036854775807": whole(math.MaxInt64), "-9223372036854775808": whole(math.MinInt64),
		"0p0": float(0), "-0p0": float(math.Copysign(0, -1)), "3p-1": float(1.5), "-1p0": float(-1), "1p-1074": float(math.SmallestNonzeroFloat64), "nan": float(math.NaN()), "inf": float(math.Inf(1)), "-inf": float(math.Inf(-1)),
		"''": text(""), "' '": text(" "), "'a  b'": text("a  b"), "'# a'": text("# a"), "' # '": text(" # "), "'#'": text("#"), "' :A q=1 '": text(" :A q=1 "), "'->'": text("->"), `'it\'s'`: text("it's"), `'\\'`: text(`\`), `'\\\''`: text(`\'`), `'\n'`: text("\n"), `'\' '`: text("' "), "'=\r\t\x00\xff\u00e4'": text("=\r\t\x00\xff\u00e4"), "'null'": text("null"), "'1'": text("1"),
	} {
		p, q := api.Prop{Name: "p", Value: v}, api.Prop{Name: "q", Value: v}
		wantGraph(t, "node a p="+s, nodes(api.Node{Name: "a", Props: []api.Prop{p}}))
		wantGraph(t, "node a p="+s+" #'\n", nodes(api.Node{Name: "a", Props: []api.Prop{p}}))
		wantGraph(t, "node a p="+s+"  q="+s+" ", nodes(api.Node{Name: "a", Props: []api.Prop{p, q}}))
		wantGraph(t, "node a\nnode b\nedge e a -- a q="+s+" p="+s, edges(api.Edge{Name: "e", Props: []api.Prop{p, q}}))
	}
	for _, s := range []string{"", "+1", "01", "-0", "--1", "1.5", "1e3", "0x1", "9223372036854775808", "-9223372036854775809", "1p", "p1", "2p0", "2p-1", "0p1", "NaN", "Inf", "+inf", "True", "FALSE", "Null", "nil", "nulls", "truefalse", "1true", "a", "x'a'", `"a"`, "'", "'a", "'a b", `'\'`, `'\a'`, `'\t'`, `'\N'`, "'a''b'", "'a'b", "'a' b", "''x", "'''", "1 2", "1-", "1'", "1'a'", "'a'='b'", "'a\nb'", "'a'\r", "\u0661"} {
		wantWrong(t, "node a p="+s, 1, api.ErrSyntax)
		wantWrong(t, "node a p="+s+" q=1", 1, api.ErrSyntax)
		wantWrong(t, "node a :A q='# x' p="+s+" # x", 1, api.ErrSyntax)
	}
}

func TestParseOrder(t *testing.T) {
	props := []api.Prop{{Name: "P", Value: whole(3)}, {Name: "_", Value: whole(2)}, {Name: "p", Value: whole(4)}, {Name: "p1", Value: whole(1)}}
	labels := []string{"A", "B1", "_", "a", "aa"}
	wantGraph(t, "node a :aa :a :_ :B1 :A p1=1 _=2 P=3 p=4", nodes(api.Node{Name: "a", Labels: labels, Props: props}))
	wantGraph(t, "node a :A :B1 :_ :a :aa P=3 _=2 p=4 p1=1", nodes(api.Node{Name: "a", Labels: labels, Props: props}))
	wantGraph(t, "node a\nnode b\nedge e b -- a :_ :aa :A :a :B1 p=4 P=3 p1=1 _=2", edges(api.Edge{Name: "e", From: 1, Labels: labels, Props: props}))
	wantGraph(t, "node b :B\nnode a :A\nedge f b -> a\nnode c\nedge e c -- b", api.Graph{
		Nodes: []api.Node{{Name: "b", Labels: []string{"B"}}, {Name: "a", Labels: []string{"A"}}, {Name: "c"}},
		Edges: []api.Edge{{Name: "f", To: 1, Directed: true}, {Name: "e", From: 2}},
	})
}

func TestParseScope(t *testing.T) {
	for s, line := range map[string]int{
		"node a\nnode a": 2, "node a\n#\n\nnode b\nnode a :A p=1": 5, "node b\nnode a\nnode b": 3,
		"node a\nedge e a -> a\nedge e a -> a": 3, "node a\nedge e a -> a\nedge f a -- a\nedge e a -- a :A": 4,
		"edge e a -> a": 1, "edge e a -- a\nnode a": 1, "node a\nedge e a -> b\nnode b": 2, "node a\nedge e b -> a\nnode b": 2, "node a\nedge e b -- b": 2, "node a\nedge e A -> a": 2, "node a\nedge e a -- aa": 2,
		"node a\nedge e a -> a\nedge f e -> a": 3, "node a\nedge e a -> a\nedge f a -> e": 3, "node a\nedge e a -> e": 2, "node a\nedge e a -> node": 2, "node a # node b\nedge e a -> b": 2,
		"node a :A :A": 1, "node a :A :B :A": 1, "node a :C :B :A :B": 1, "node a\nedge e a -> a :A :A": 2, "node b\nnode a :A :A #": 2,
		"node a p=1 p=1": 1, "node a p=1 p=2": 1, "node a p=1 q=1 p='p'": 1, "node a r=1 q=1 p=1 q=1": 1, "node a\nedge e a -- a p=1 p=1": 2,
	} {
		wantWrong(t, s, line, api.ErrScope)
		wantWrong(t, s+"\nnode", line, api.ErrScope)
	}
	a := api.Node{Name: "a", Labels: []string{"A", "a"}, Props: []api.Prop{{Name: "A", Value: whole(1)}, {Name: "a", Value: whole(1)}}}
	b := a
	b.Name = "A"
	wantGraph(t, "node a :a :A a=1 A=1\nnode A :a :A a=1 A=1", nodes(a, b))
	wantGraph(t, "node a :a :A a=1 A=1\nedge a a -> a :a :A a=1 A=1", api.Graph{Nodes: []api.Node{a}, Edges: []api.Edge{{Name: "a", Directed: true, Labels: a.Labels, Props: a.Props}}})
}

func TestParseNull(t *testing.T) {
	for _, s := range []string{"node b p=null", "node b :A p=null ", "node b p=1 q=null # x", "node b p=null q=null", "node b q='x' p=null", "edge e a -> a p=null", "edge e a -- a :A p=1 q=null"} {
		wantWrong(t, "node a\n"+s+"\nnode a", 2, api.ErrType)
	}
	wantGraph(t, "node a :null null='null'", nodes(api.Node{Name: "a", Labels: []string{"null"}, Props: []api.Prop{{Name: "null", Value: text("null")}}}))
}

// many is so many lines, with numbers in them.
func many(count int, ahead, behind string) string {
	var b strings.Builder
	for i := range count {
		b.WriteString(ahead + strconv.Itoa(i) + behind + "\n")
	}
	return b.String()
}

func TestParseLimits(t *testing.T) {
	full := many(1000, "node n", "") + many(1000, "edge e", " n7 -> n999")
	g, line, e := Parse([]byte(full + "# x\n"))
	if len(g.Nodes) != 1000 || len(g.Edges) != 1000 || line != 0 || e != api.OK || graph.Right(g) != api.OK {
		t.Fatalf("%d %d %d %v", len(g.Nodes), len(g.Edges), line, e)
	}
	if n, x := g.Nodes[999], g.Edges[999]; n.Name != "n999" || x.Name != "e999" || x.From != 7 || x.To != 999 {
		t.Errorf("%v %v", n, x)
	}
	for s, e := range map[string]api.Errno{
		"node a": api.ErrLimit, "node a :A p=1": api.ErrLimit, "node e1": api.ErrLimit, "edge e n0 -> n0": api.ErrLimit, "edge n1 n0 -- n1": api.ErrLimit,
		"node": api.ErrSyntax, "node 1": api.ErrSyntax, "node a p": api.ErrSyntax, "node n1 p=null p": api.ErrSyntax, "edge e n0 n1": api.ErrSyntax, "edge e1 n0 -> x p=null p=1 1": api.ErrSyntax,
		"node n1": api.ErrScope, "node n1 p=null": api.ErrScope, "node a :A :A": api.ErrScope, "node a p=null p=1": api.ErrScope, "edge e1 n0 -> n1": api.ErrScope, "edge e n0 -> x": api.ErrScope, "edge e x -- n0 p=null": api.ErrScope, "edge e n0 -- n0 :A :A": api.ErrScope,
		"node a p=null": api.ErrType, "edge e n0 -> n0 p=null": api.ErrType,
	} {
		wantWrong(t, full+s, 2001, e)
		wantWrong(t, full+"\n"+s+"\nnode", 2002, e)
	}
	wantWrong(t, many(1001, "node n", ""), 1001, api.ErrLimit)
	wantWrong(t, many(1002, "node n", " # x\n"), 2001, api.ErrLimit)
	wantWrong(t, "node a\n"+many(1001, "edge e", " a -- a"), 1002, api.ErrLimit)
}

func TestParseFirstError(t *testing.T) {
	for _, ahead := range []string{"", "node z\n", "\n \n#\n"} {
		line := 1 + strings.Count(ahead, "\n")
		for s, e := range map[string]api.Errno{
			"edge e a -> b :A :A p=null p=null q": api.ErrSyntax, "edge e a -> 1": api.ErrSyntax, "edge e 1 -> a": api.ErrSyntax, "node a :A :A 1": api.ErrSyntax, "node a p=null p=": api.ErrSyntax, "node a p=null :A": api.ErrSyntax, "edge e a -> b p=null 'x": api.ErrSyntax,
			"edge e a -> b :A p=null": api.ErrScope, "node a :A :A p=null": api.ErrScope, "node a p=null q=1 p=null": api.ErrScope, "node a p=null p=1": api.ErrScope,
			"node a p=null\nnode": api.ErrType, "node a :A :A\nnode": api.ErrScope, "node a p=null\nnode a\nnode a :A :A": api.ErrType, "edge e a -> a\nnode a p=null": api.ErrScope, "node a q\nnode a :A :A": api.ErrSyntax, "node a p=null # x\n'": api.ErrType,
		} {
			wantWrong(t, ahead+s, line, e)
			wantWrong(t, ahead+s+"\n\n", line, e)
		}
	}
}

func TestParseLong(t *testing.T) {
	const count, size = 20000, 100000
	labels, props := make([]string, count), make([]api.Prop, count)
	for i := range count {
		labels[i] = "L" + strconv.Itoa(size+i)
		props[i] = api.Prop{Name: "p" + strconv.Itoa(size+i), Value: text(strings.Repeat(" #", i%50))}
	}
	var b strings.Builder
	b.WriteString("node a")
	for _, l := range slices.Backward(labels) {
		b.WriteString(" :" + l)
	}
	for _, p := range slices.Backward(props) {
		b.WriteString(" " + p.Name + "='" + p.Value.S + "'")
	}
	wantGraph(t, b.String(), nodes(api.Node{Name: "a", Labels: labels, Props: props}))
	wantWrong(t, b.String()+" p100007=1", 1, api.ErrScope)
	wantWrong(t, b.String()+" q", 1, api.ErrSyntax)
	wantWrong(t, strings.Repeat("\n", size)+"x", size+1, api.ErrSyntax)
	wantWrong(t, strings.Repeat(" ", size)+strings.Repeat("a", size), 1, api.ErrSyntax)
	long := strings.Repeat("x ", size)
	wantGraph(t, "node a p='"+long+"'", nodes(api.Node{Name: "a", Props: []api.Prop{{Name: "p", Value: text(long)}}}))
}

func TestParseIsNotKept(t *testing.T) {
	source := "node a :A p='x y'\nnode b\nedge e a -> b :E q='z'\n"
	b := []byte(source)
	g, _, _ := Parse(b)
	for i := range b {
		b[i] = '!'
	}
	want, _, _ := Parse([]byte(source))
	if !same(g, want) || g.Nodes[0].Name != "a" || g.Edges[0].Props[0].Value.S != "z" {
		t.Errorf("kept: %v", g)
	}
	g.Nodes[0].Labels[0], g.Edges[0].Props[0].Name, g.Nodes[1].Name = "!", "!", "!"
	if again, _, _ := Parse([]byte(source)); !same(again, want) {
		t.Errorf("not the caller's: %v", again)
	}
}

func TestParseListsAreApart(t *testing.T) {
	source := "node a :A :B :C p=1 q=1 r=1\nnode b :A :B :C p=1 q=1 r=1\nnode c\nedge e a -> b :A :B :C p=1 q=1 r=1"
	g, _, _ := Parse([]byte(source))
	want, _, _ := Parse([]byte(source))
	_ = append(g.Nodes[0].Labels, "Z", "Z")
	_ = append(g.Nodes[0].Props, api.Prop{Name: "Z"}, api.Prop{Name: "Z"})
	g.Nodes[0].Labels[2], g.Edges[0].Props[0].Name = "Z", "Z"
	if !same(nodes(g.Nodes[1:]...), nodes(want.Nodes[1:]...)) || !slices.Equal(g.Edges[0].Labels, want.Edges[0].Labels) {
		t.Errorf("lists share: %v", g)
	}
}
