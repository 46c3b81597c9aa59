package load

import (
	"math/rand"
	"regexp"
	"slices"
	"strings"
	"testing"

	"bridleway/api"
	"bridleway/value"
)

// The letter of the chapter, as one expression for each kind of line.
const (
	word   = `[A-Za-z_][A-Za-z0-9_]{0,39}`
	prop   = word + `=(?:'(?:[^\\'\n]|\\[\\'n])*'|[a-z0-9-]+)`
	behind = `((?: +:` + word + `)*)((?: +` + prop + `)*)(?: +(?:#.*)?)?$`
)

var (
	nothingLine = regexp.MustCompile(`(?s)^ *(?:#.*)?$`)
	nodeLine    = regexp.MustCompile(`(?s)^ *node +(` + word + `)` + behind)
	edgeLine    = regexp.MustCompile(`(?s)^ *edge +(` + word + `) +(` + word + `) +(->|--) +(` + word + `)` + behind)
	eachProp    = regexp.MustCompile(`(?s)(` + word + `)=('(?:[^\\'\n]|\\[\\'n])*'|[a-z0-9-]+)`)
)

// byLetter is what Parse is to answer, by expressions, whole lines and searches.
func byLetter(source string) (api.Graph, int, api.Errno) {
	var g api.Graph
	for i, line := range strings.Split(source, "\n") {
		if nothingLine.MatchString(line) {
			continue
		}
		if e := byLetterLine(&g, line); e != api.OK {
			return api.Graph{}, i + 1, e
		}
	}
	return g, 0, api.OK
}

func byLetterLine(g *api.Graph, line string) api.Errno {
	if m := nodeLine.FindStringSubmatch(line); m != nil {
		n := api.Node{Name: m[1]}
		var e api.Errno
		n.Labels, n.Props, e = byLetterRest(m[2], m[3], findNode(*g, n.Name) < 0)
		if e == api.OK && len(g.Nodes) == 1000 {
			e = api.ErrLimit
		}
		g.Nodes = append(g.Nodes, n)
		return e
	}
	if m := edgeLine.FindStringSubmatch(line); m != nil {
		x := api.Edge{Name: m[1], From: findNode(*g, m[2]), Directed: m[3] == "->", To: findNode(*g, m[4])}
		known := slices.ContainsFunc(g.Edges, func(y api.Edge) bool { return y.Name == x.Name })
		var e api.Errno
		x.Labels, x.Props, e = byLetterRest(m[5], m[6], x.From >= 0 && x.To >= 0 && !known)
		if e == api.OK && len(g.Edges) == 1000 {
			e = api.ErrLimit
		}
		g.Edges = append(g.Edges, x)
		return e
	}
	return api.ErrSyntax
}

func findNode(g api.Graph, name string) int {
	return slices.IndexFunc(g.Nodes, func(n api.Node) bool { return n.Name == name })
}

// byLetterRest is what stands behind the names, and the error of the line, if those are in scope, or not.
func byLetterRest(labels, props string, scope bool) ([]string, []api.Prop, api.Errno) {
	var l []string
	for _, s := range strings.Fields(labels) {
		scope = scope && !slices.Contains(l, s[1:])
		l = append(l, s[1:])
	}
	var p []api.Prop
	null := false
	for _, m := range eachProp.FindAllStringSubmatch(props, -1) {
		v, n, ok := value.Read(m[2])
		if !ok || n < len(m[2]) {
			return nil, nil, api.ErrSyntax
		}
		scope = scope && !slices.ContainsFunc(p, func(q api.Prop) bool { return q.Name == m[1] })
		null = null || v.Kind == api.Null
		p = append(p, api.Prop{Name: m[1], Value: v})
	}
	slices.Sort(l)
	slices.SortFunc(p, func(a, b api.Prop) int { return strings.Compare(a.Name, b.Name) })
	switch {
	case !scope:
		return nil, nil, api.ErrScope
	case null:
		return nil, nil, api.ErrType
	}
	return l, p, api.OK
}

// checkLetter holds Parse to the letter, and what is printed to what was parsed.
func checkLetter(t *testing.T, source string) api.Errno {
	t.Helper()
	want, line, e := byLetter(source)
	if e != api.OK {
		wantWrong(t, source, line, e)
		return e
	}
	wantGraph(t, source, want)
	s, e := Print(want)
	if e != api.OK {
		t.Errorf("%q: Print: %v", source, e)
	}
	wantGraph(t, s, want)
	g, _, _ := Parse([]byte(s))
	if again, e := Print(g); again != s || e != api.OK {
		t.Errorf("%q: %q %v, not %q", source, again, e, s)
	}
	return api.OK
}

// writer makes sources that are right, for the most part.
type writer struct{ *rand.Rand }

func (w writer) one(of ...string) string { return of[w.Intn(len(of))] }

func (w writer) blank() string { return w.one(" ", " ", " ", "  ", "    ") }

func (w writer) line(i int) string {
	name := w.one("a", "b", "c", "d", "e") + w.one("", "", string(rune('0'+i)))
	var b strings.Builder
	b.WriteString(w.one("", "", "", " ", "   "))
	switch w.Intn(8) {
	case 0:
		b.WriteString(w.one("", "", "# x", "#"))
	case 1, 2, 3:
		b.WriteString("edge" + w.blank() + name + w.blank() + w.one("a", "b", "a", "b", "c") + w.blank() + w.one("->", "--") + w.blank() + w.one("a", "b"))
		w.rest(&b)
	default:
		b.WriteString("node" + w.blank() + name)
		w.rest(&b)
	}
	return b.String()
}

func (w writer) rest(b *strings.Builder) {
	for range w.Intn(3) {
		b.WriteString(w.blank() + ":" + w.one("A", "B", "C", "D", "a", "_"))
	}
	for range w.Intn(3) {
		b.WriteString(w.blank() + w.one("p", "q", "r", "P", "p1") + "=" + w.one("0", "-1", "1", "true", "false", "3p-1", "inf", "nan", "-0p0", "''", "' '", "'a b'", "' # '", `'\''`, `'\\'`, `'\n'`, "'\xff'", "null"))
	}
	b.WriteString(w.one("", "", "", " ", " #", "  # :x p='"))
}

// spoiled puts in, takes out or turns over some piece at some place, or not.
func (w writer) spoiled(s string) string {
	if len(s) == 0 || w.Intn(3) > 0 {
		return s
	}
	i := w.Intn(len(s))
	piece := w.one(" ", "#", "'", "=", ":", "\n", "-", "->", "\t", "\r", "1", "a", `\`, "\x00", "null", "p=1", " :A", " p=1", " a", "node ", "\nnode a", "\nedge a a -> a")
	return s[:i] + w.one(piece, piece, "") + s[i+w.Intn(2):]
}

func TestParseByTheLetter(t *testing.T) {
	w := writer{rand.New(rand.NewSource(8))}
	told := map[api.Errno]int{}
	for range 60000 {
		var lines []string
		for i := range 1 + w.Intn(6) {
			lines = append(lines, w.line(i))
		}
		told[checkLetter(t, w.spoiled("node a\nnode b\n"[w.Intn(2)*7:]+strings.Join(lines, "\n")+w.one("", "\n")))]++
		if t.Failed() {
			return
		}
	}
	for _, e := range []api.Errno{api.OK, api.ErrSyntax, api.ErrScope, api.ErrType} {
		if told[e] < 1000 {
			t.Errorf("%v is told of %d sources alone", e, told[e])
		}
	}
}

// TestParseOfShortSources goes through all sources of a few pieces.
func TestParseOfShortSources(t *testing.T) {
	pieces := []string{"node", "edge", "a", " ", "\n", "#", ":", "=", "1", "'", "->", "null"}
	var all func(source string, left int)
	all = func(source string, left int) {
		checkLetter(t, source)
		checkLetter(t, "node a"+source)
		checkLetter(t, "node a\nedge a a -- a"+source)
		if left == 0 || t.Failed() {
			return
		}
		for _, p := range pieces {
			all(source+p, left-1)
		}
	}
	all("", 4)
}

func FuzzParse(f *testing.F) {
	f.Add("node a :L p=1\nedge e a -> a")
	f.Add("# x\n node a :A  :B p='# \\'' q=3p-1 # y\nnode b\nedge e a -- b\n")
	f.Add("node a p=null\nnode a")
	f.Fuzz(func(t *testing.T, source string) { checkLetter(t, source) })
}
