package parse

import (
	"math/big"
	"math/rand"
	"reflect"
	"regexp"
	"slices"
	"strings"
	"testing"

	"bridleway/api"
	"bridleway/lex"
)

// The chapter's grammar as it stands there, but that each open has those closes beside it that go with it.
const grammarText = `
query   = [ "WALK" | "TRAIL" | "ACYCLIC" | "SIMPLE" ] [ "ALL" [ "SHORTEST" ] | "ANY" | "SHORTEST" number ] pattern
pattern = branch {{ "|" branch }}
branch  = item {{ item }}
item    = ( node | edge | "[" pattern "]" ) [ times ]
node    = "(" filling ")"
edge    = "-[" filling ( "]->" | "]-" ) | "<-[" filling ( "]-" | "]->" ) | "~[" filling ( "]~" | "]~>" ) | "<~[" filling "]~" |  "->" | "<-" | "~" | "<->" | "<~" | "~>" | "-"
filling = [ word ] [ ":" labels ] [ "WHERE" expr ]
times   = "*" | "+" | "?" | "{" number [ "," [ number ] ] "}"
labels  = both {{ "|" both }}
both    = not {{ "&" not }}
not     = {{ "!" }} ( word | "%" | "(" labels ")" )
expr    = and {{ "OR" and }}
and     = turned {{ "AND" turned }}
turned  = {{ "NOT" }} test
test    = sum [ ( "=" | "<>" | "<" | "<=" | ">" | ">=" ) sum  |  "IS" "null" ]
sum     = product {{ ( "+" | "-" ) product }}
product = atom {{ "*" atom }}
atom    = word | "(" expr ")" | quoted | "null" | "true" | "false" | [ "-" ] ( number | "inf" ) | "nan"
`

// grammar is, for each name, the rows of symbols that it may stand for; a symbol in quotes is a sign or a key.
type grammar map[string][][]string

var symbolShape = regexp.MustCompile(`"[^"]+"|\{\{|\}\}|[a-z]+|[][()|]`)

func readGrammar() grammar {
	g := grammar{}
	for line := range strings.SplitSeq(strings.TrimSpace(grammarText), "\n") {
		name, rule, _ := strings.Cut(line, "=")
		left := symbolShape.FindAllString(rule, -1)
		name = strings.TrimSpace(name)
		g[name] = g.rows(&left, name)
	}
	return g
}

// rows reads up to what ends them; what stands in brackets gets a name of its own.
func (g grammar) rows(left *[]string, name string) [][]string {
	rows := [][]string{nil}
	for len(*left) > 0 {
		symbol := (*left)[0]
		*left = (*left)[1:]
		last := &rows[len(rows)-1]
		inner := name + "/" + string(rune('a'+len(g)))
		switch symbol {
		case "]", ")", "}}":
			return rows
		case "|":
			rows = append(rows, nil)
		case "[", "(", "{{":
			g[inner] = nil
			within := g.rows(left, inner)
			if symbol == "{{" {
				for i := range within {
					within[i] = append(within[i], inner)
				}
			}
			if symbol != "(" {
				within = append(within, nil)
			}
			g[inner] = within
			*last = append(*last, inner)
		default:
			*last = append(*last, symbol)
		}
	}
	return rows
}

// reading is all that may still stand behind what was read: each is symbols, the next one first, with blanks between.
type reading []string

// symbolOf is what the grammar calls a token.
func symbolOf(k lex.Token) string {
	switch k.Kind {
	case lex.TokWord:
		return "word"
	case lex.TokNumber:
		return "number"
	case lex.TokQuoted:
		return "quoted"
	}
	return `"` + k.Text + `"`
}

// unfold goes on until each begins with a kind of tokens, or is empty.
func (g grammar) unfold(r reading) reading {
	done := map[string]int{}
	var flat reading
	for len(r) > 0 {
		now := r[len(r)-1]
		r = r[:len(r)-1]
		if done[now] > 0 {
			continue
		}
		done[now]++
		symbol, rest, _ := strings.Cut(now, " ")
		rows, isName := g[symbol]
		if !isName {
			flat = append(flat, now)
		}
		for _, row := range rows {
			r = append(r, strings.TrimSpace(strings.Join(row, " ")+" "+rest))
		}
	}
	return flat
}

// after is what may stand behind this symbol; nothing, if it may not come next.
func (g grammar) after(r reading, symbol string) reading {
	var then reading
	for _, now := range g.unfold(r) {
		if first, rest, _ := strings.Cut(now, " "); first == symbol {
			then = append(then, rest)
		}
	}
	return then
}

func (g grammar) isWhole(r reading) bool { return slices.Contains(g.unfold(r), "") }

// watch tells what is wrong beside the grammar, by looking back from each token at those ahead.
type watch struct {
	read    []lex.Token
	times   int   // where the last `{` stands among those
	deep    []int // of what is open: 0 of a group, 1 of what has a filling, 2 of a bracket in that
	isValue func(string) bool
}

func (w *watch) back(n int) lex.Token {
	if n < len(w.read) {
		return w.read[len(w.read)-1-n]
	}
	return lex.Token{}
}

func (w *watch) count(what int) int {
	n := 0
	for _, d := range w.deep {
		if d == what {
			n++
		}
	}
	return n
}

func isInt(s string) bool {
	n, ok := new(big.Int).SetString(s, 10)
	return ok && n.IsInt64()
}

func atMost(s string, most int64) bool {
	n, _ := new(big.Int).SetString(s, 10)
	return n.Cmp(big.NewInt(most)) <= 0
}

// look takes a token that the grammar takes, and tells where what is wrong begins, and the error.
func (w *watch) look(k lex.Token) (int, api.Errno) {
	w.read = append(w.read, k)
	inFilling := w.count(1) > 0
	switch {
	case k.Kind == lex.TokNumber && inFilling:
		return k.At, w.checkNumber()
	case k.Kind == lex.TokNumber && w.back(1).Text == "SHORTEST":
		return k.At, checkShortest(k.Text)
	case k.Kind == lex.TokNumber && !isInt(k.Text):
		return w.read[w.times].At, api.ErrSyntax
	case k.Text == "{":
		w.times = len(w.read) - 1
	case k.Text == "}":
		return w.read[w.times].At, checkTimes(w.read[w.times+1:])
	case k.Text == "[":
		w.deep = append(w.deep, 0)
		return k.At, limited(w.count(0))
	case k.Text == "(" && inFilling:
		w.deep = append(w.deep, 2)
		return k.At, limited(w.count(2))
	case k.Kind == lex.TokSign && strings.HasSuffix(k.Text, "[") || k.Text == "(":
		w.deep = append(w.deep, 1)
	case k.Kind == lex.TokSign && strings.HasPrefix(k.Text, "]") || k.Text == ")":
		w.deep = w.deep[:len(w.deep)-1]
	}
	return 0, api.OK
}

func limited(count int) api.Errno {
	if count > 50 {
		return api.ErrLimit
	}
	return api.OK
}

func checkShortest(n string) api.Errno {
	switch {
	case !isInt(n) || atMost(n, 0):
		return api.ErrSyntax
	case !atMost(n, 1000):
		return api.ErrLimit
	}
	return api.OK
}

// checkTimes is of what stands behind a `{`, up to its `}`.
func checkTimes(l []lex.Token) api.Errno {
	least, most := l[0].Text, l[0].Text
	if len(l) > 2 {
		most = l[2].Text
	}
	if most == "}" {
		if atMost(least, 20) {
			return api.OK
		}
		return api.ErrLimit
	}
	n, _ := new(big.Int).SetString(most, 10)
	switch {
	case atMost(most, 0) || !atMost(least, n.Int64()):
		return api.ErrSyntax
	case !atMost(most, 20):
		return api.ErrLimit
	}
	return api.OK
}

// checkNumber is of one in an expr: a `-` ahead is its own, if nothing stands ahead of that from which it could be taken away.
func (w *watch) checkNumber() api.Errno {
	s := w.back(0).Text
	if w.back(1).Text == "-" && !w.isPart(w.back(2)) {
		s = "-" + s
	}
	if s == "-0" || s == "9223372036854775808" {
		return api.ErrSyntax
	}
	return api.OK
}

// isPart tells whether a part of a sum may end with this token.
func (w *watch) isPart(k lex.Token) bool {
	switch k.Kind {
	case lex.TokWord, lex.TokNumber, lex.TokQuoted:
		return true
	}
	return slices.Contains([]string{")", "null", "true", "false", "inf", "nan"}, k.Text)
}

// byLetter is where s is wrong, and how; what is too deep is not looked for.
func (g grammar) byLetter(s string) (int, api.Errno) {
	l, at, e := lex.Lex(s)
	if e != api.OK {
		return at, e
	}
	r, w := reading{"query"}, watch{}
	for _, k := range l {
		if r = g.after(r, symbolOf(k)); len(r) == 0 {
			return k.At, api.ErrSyntax
		}
		if at, e := w.look(k); e != api.OK {
			return at, e
		}
	}
	if !g.isWhole(r) {
		return len(s), api.ErrSyntax
	}
	return 0, api.OK
}

// checkLetter holds Parse to the letter, and tells that.
func (g grammar) checkLetter(t *testing.T, s string) (int, api.Errno) {
	t.Helper()
	at, e := g.byLetter(s)
	q, gotAt, got := Parse(s)
	if gotAt != at || got != e {
		t.Errorf("%.300q: %d %v, not %d %v", s, gotAt, got, at, e)
	}
	if got == api.OK && q.Pat.Kind == 0 || got != api.OK && !reflect.DeepEqual(q, api.Query{}) {
		t.Errorf("%.300q: %s %v", s, brief(q), got)
	}
	return at, e
}

func TestGrammarIsRead(t *testing.T) {
	g := readGrammar()
	if got := g.unfold(reading{"both"}); len(got) != 4 {
		t.Errorf("%q", got)
	}
	for s, want := range map[string]int{"(a)": 0, "(a": 2, "(a))": 3, "->*": 0, "->**": 3, "SHORTEST 3 (:!!A&(B|%) WHERE NOT a + -1 * b IS null)|[->{1,}]": 0, "-[]~": 2, "<~[]~>": 3} {
		if at, _ := g.byLetter(s); at != want {
			t.Errorf("%q: %d", s, at)
		}
	}
}

// TestParseOfShortRows goes on from all that begins some query, with each token there is.
func TestParseOfShortRows(t *testing.T) {
	g := readGrammar()
	for _, x := range []struct {
		ahead, pieces string
		most          int
	}{
		{"", "WALK TRAIL ACYCLIC SIMPLE ALL ANY SHORTEST WHERE OR AND NOT IS null true false inf nan a 1 0 1p0 'x' <-[ <~[ ]-> ]~> <-> -[ ~[ ]- ]~ -> <- <~ ~> <= >= <> ( ) [ ] { } , : | & ! % * + ? = < > - ~", 3},
		{"", "SIMPLE ALL ANY SHORTEST 1 0 1001 ->", 5},
		{"(a)", "[ ] ( ) x -> | * { } 2", 5},
		{"->{", "0 1 2 21 3p0 9223372036854775808 , } -", 6},
		{"[", "-[ <-[ ~[ <~[ ]-> ]- ]~ ]~> ] -> x", 5},
		{"(", "x : WHERE A p ) & |", 6},
		{"(:", "A % ! & | ( ) WHERE ]->", 6},
		{"(WHERE", "p NOT AND OR IS null = ( ) 1", 5},
		{"<-[WHERE", "p + - * 0 9223372036854775808 inf < ]-", 5},
		{"(WHERE", "- ( ) p nan 'x' <> >=", 6},
	} {
		pieces := strings.Fields(x.pieces)
		var all func(s string, left int)
		all = func(s string, left int) {
			at, e := g.checkLetter(t, s)
			if t.Failed() || left == 0 || e != api.OK && at < len(s) {
				return
			}
			for _, p := range pieces {
				all(s+" "+p, left-1)
			}
		}
		all(x.ahead, x.most)
	}
}

// maker makes queries, and texts that say them.
type maker struct {
	*rand.Rand
	words []string
}

func (m *maker) put(l ...string) { m.words = append(m.words, l...) }

func (m *maker) oneOf(l ...string) string { return l[m.Intn(len(l))] }

// more tells, by chance, whether something more is put: nothing, if there is enough already.
func (m *maker) more(chances int) bool { return m.Intn(chances) == 0 && len(m.words) < 60 }

func (m *maker) query() api.Query {
	q := api.Query{}
	switch q.Mode = m.Intn(4); {
	case q.Mode > 0:
		m.put([]string{"", "TRAIL", "ACYCLIC", "SIMPLE"}[q.Mode])
	case m.Intn(2) == 0:
		m.put("WALK")
	}
	switch q.Select = m.Intn(4); {
	case q.Select == 3:
		k := m.oneOf("1", "2", "17", "999", "1000")
		n, _ := new(big.Int).SetString(k, 10)
		q.K = int(n.Int64())
		m.put("SHORTEST", k)
	case q.Select > 0:
		m.put(strings.Fields([]string{"", "ANY", "ALL SHORTEST"}[q.Select])...)
	case m.Intn(2) == 0:
		m.put("ALL")
	}
	q.Pat = m.pattern(m.Intn(5))
	return q
}

// several puts parts with a word between, and is what they are together.
func several[T any](m *maker, part func() T, between []string, join func(l []T) T) T {
	l := []T{part()}
	for m.more(3) {
		m.put(between...)
		l = append(l, part())
	}
	if len(l) == 1 {
		return l[0]
	}
	return join(l)
}

func (m *maker) pattern(left int) api.Pat {
	items := func() api.Pat {
		return several(m, func() api.Pat { return m.item(left) }, nil, func(l []api.Pat) api.Pat { return seq(l...) })
	}
	return several(m, items, []string{"|"}, func(l []api.Pat) api.Pat { return alt(l...) })
}

func (m *maker) item(left int) api.Pat {
	p := m.once(left)
	switch m.Intn(8) {
	case 0:
		m.put("*")
		return quant(0, -1, p)
	case 1:
		m.put("+")
		return quant(1, -1, p)
	case 2:
		m.put("?")
		return quant(0, 1, p)
	case 3:
		m.put("{", "20", "}")
		return quant(20, 20, p)
	case 4:
		m.put("{", "3", ",", "}")
		return quant(3, -1, p)
	case 5:
		m.put("{", "0", ",", "20", "}")
		return quant(0, 20, p)
	}
	return p
}

func (m *maker) once(left int) api.Pat {
	switch {
	case left > 0 && m.more(4):
		m.put("[")
		p := m.pattern(left - 1)
		m.put("]")
		return p
	case m.Intn(2) == 0:
		m.put("(")
		p := m.filled(node(""))
		m.put(")")
		return p
	}
	d := directions()[m.Intn(7)]
	p := edge("", int(d[3][0]-'0'))
	if m.Intn(2) == 0 {
		m.put(d[2])
		return p
	}
	m.put(d[0])
	p = m.filled(p)
	m.put(d[1])
	return p
}

func (m *maker) filled(p api.Pat) api.Pat {
	if m.Intn(2) == 0 {
		p.Var = m.oneOf("a", "b", "_", "WHERES", "p1")
		m.put(p.Var)
	}
	if m.more(3) {
		m.put(":")
		p.Label = m.term(m.Intn(5), "|", "&")
	}
	if m.more(3) {
		m.put("WHERE")
		p.Where = m.term(m.Intn(7), "OR", "AND", "NOT", "=", "+", "*")
	}
	return p
}

// term is one of labels, or of exprs, of parts that are joined by signs as loose as these, or tighter; the loosest stands first.
func (m *maker) term(left int, signs ...string) api.Expr {
	if len(signs) == 0 {
		return m.least(left, "OR", "AND", "NOT", "=", "+", "*")
	}
	tighter := func() api.Expr { return m.term(left, signs[1:]...) }
	switch sign := signs[0]; sign {
	case "|", "&":
		if sign == "&" {
			tighter = func() api.Expr { return m.label(left) }
		}
		e := tighter()
		for m.more(4) {
			m.put(sign)
			e = map[string]func(a, b api.Expr) api.Expr{"|": orLabel, "&": andLabel}[sign](e, tighter())
		}
		return e
	case "NOT":
		return m.turned("NOT", tighter, func(e api.Expr) api.Expr { return op("not", e) })
	case "=":
		return m.test(tighter)
	default:
		e := tighter()
		for m.more(4) {
			if sign == "+" {
				sign = m.oneOf("+", "-")
			}
			m.put(sign)
			e = op(strings.ToLower(sign), e, tighter())
		}
		return e
	}
}

func (m *maker) turned(sign string, part func() api.Expr, turn func(api.Expr) api.Expr) api.Expr {
	if m.Intn(4) > 0 {
		return part()
	}
	m.put(sign)
	return turn(m.turned(sign, part, turn))
}

func (m *maker) label(left int) api.Expr {
	return m.turned("!", func() api.Expr {
		if left > 0 && m.more(3) {
			m.put("(")
			e := m.term(left-1, "|", "&")
			m.put(")")
			return e
		}
		if m.Intn(4) == 0 {
			m.put("%")
			return anyLabel()
		}
		name := m.oneOf("A", "B", "C", "nAn")
		m.put(name)
		return label(name)
	}, notLabel)
}

func (m *maker) test(part func() api.Expr) api.Expr {
	e := part()
	switch m.Intn(3) {
	case 0:
		sign := m.oneOf("=", "<>", "<", "<=", ">", ">=")
		m.put(sign)
		return op(sign, e, part())
	case 1:
		m.put("IS", "null")
		return op("isnull", e)
	}
	return e
}

func (m *maker) least(left int, signs ...string) api.Expr {
	if left > 0 && m.more(3) {
		m.put("(")
		e := m.term(left-1, signs...)
		m.put(")")
		return e
	}
	if m.Intn(2) == 0 {
		name := m.oneOf("p", "q", "inF")
		m.put(name)
		return prop(name)
	}
	atoms := literals()
	a := atoms[m.Intn(len(atoms))]
	m.put(strings.Split(a.text, " ")...)
	return a.e
}

type literal struct {
	text string
	e    api.Expr
}

func literals() []literal {
	return []literal{
		{"null", null()}, {"true", truth(1)}, {"false", truth(0)}, {"0", number(0)}, {"1", number(1)}, {"- 1", number(-1)}, {"12", number(12)}, {"- 9223372036854775808", number(-1 << 63)}, {"9223372036854775807", number(1<<63 - 1)},
		{"3p-1", float(1.5)}, {"- 3p-1", float(-1.5)}, {"0p0", float(0)}, {"1p1", float(2)}, {"nan", float(nan())}, {"''", text("")}, {`'it\'s'`, text("it's")}, {`'\\n'`, text(`\n`)},
	}
}

// said is words as a text: with blanks of any kind between, or with none where that makes no other words.
func (m *maker) said(words []string) string {
	tight := strings.Join(words, "")
	if l, _, _ := lex.Lex(tight); m.Intn(2) == 0 && slices.EqualFunc(l, words, func(k lex.Token, w string) bool { return k.Text == w }) {
		return tight
	}
	var b strings.Builder
	for _, w := range words {
		b.WriteString(w + m.oneOf(" ", " ", "\n", "\t", "\r\n", "  "))
	}
	return b.String()
}

func TestParseOfMadeQueries(t *testing.T) {
	m := maker{Rand: rand.New(rand.NewSource(11))}
	for range 10000 {
		m.words = nil
		q := m.query()
		wantQuery(t, m.said(m.words), q)
		if t.Failed() {
			return
		}
	}
}

func isNumber(s string) bool { return '0' <= s[0] && s[0] <= '9' }

// spoilt is words with some of them dropped, doubled, put elsewhere, or others beside them.
func (m *maker) spoilt(words []string) []string {
	words = slices.Clone(words)
	others := strings.Fields("WALK ALL SHORTEST WHERE OR AND NOT IS null inf nan x 0 1 7 21 1001 1p0 3p-1 9223372036854775808 'y' <-[ <~[ ]-> ]~> -[ ~[ ]- ]~ -> - <- ~> <= <> ( ) [ ] { } , : | & ! % * + ? = <")
	numbers := strings.Fields("0 1 2 20 21 1000 1001 4 5p0 9223372036854775807 9223372036854775808")
	for range 1 + m.Intn(2) {
		i := m.Intn(len(words))
		switch n := m.Intn(5); {
		case isNumber(words[i]):
			words[i] = m.oneOf(numbers...)
			continue
		case n == 0:
			words = slices.Delete(words, i, i+1)
		case n == 1:
			words = slices.Insert(words, i, words[i])
		case n == 2:
			words = slices.Insert(words, i, m.oneOf(others...))
		case n == 3:
			words[i] = m.oneOf(others...)
		default:
			j := m.Intn(len(words))
			words[i], words[j] = words[j], words[i]
		}
		if len(words) == 0 {
			return others
		}
	}
	return words
}

func TestParseOfSpoiltQueries(t *testing.T) {
	g, m := readGrammar(), maker{Rand: rand.New(rand.NewSource(12))}
	told := map[api.Errno]int{}
	for range 20000 {
		m.words = nil
		m.query()
		_, e := g.checkLetter(t, m.said(m.spoilt(m.words)))
		told[e]++
		if t.Failed() {
			return
		}
	}
	for _, e := range []api.Errno{api.OK, api.ErrSyntax, api.ErrLimit} {
		if told[e] < 100 {
			t.Errorf("%v is told of %d texts alone", e, told[e])
		}
	}
}

func FuzzParse(f *testing.F) {
	f.Add("TRAIL (a)-[:K]->{1,2}(b WHERE p > 3)")
	f.Add("SHORTEST 3 [(x:A|!B&%)<~[WHERE NOT p IS null AND q = -inf]~]?|~>*")
	f.Add("(WHERE 1 - -9223372036854775808 * 'it\\'s' < nan)")
	g := readGrammar()
	f.Fuzz(func(t *testing.T, s string) {
		if len(s) > 200 {
			return
		}
		at, e := g.byLetter(s)
		if _, gotAt, got := Parse(s); (gotAt != at || got != e) && (gotAt != 0 || got != api.ErrLimit || e != api.OK) {
			t.Errorf("%q: %d %v, not %d %v", s, gotAt, got, at, e)
		}
	})
}
