package parse

import (
	"bridleway/api"
	"bridleway/lex"
)

// endless is the Max of what has none.
const endless = -1

func kidsOfPat(p api.Pat) []api.Pat { return p.Kids }

func (p *parser) pattern() api.Pat {
	branches := []api.Pat{p.branch()}
	for p.take("|") {
		branches = append(branches, p.branch())
	}
	return together(api.PatAlt, branches)
}

func (p *parser) branch() api.Pat {
	var items []api.Pat
	for item, ok := p.item(); ok; item, ok = p.item() {
		items = append(items, p.times(item))
	}
	if len(items) == 0 {
		p.refuse()
	}
	return together(api.PatSeq, items)
}

// together is a pattern of at least one: of a single one it itself.
func together(kind int, l []api.Pat) api.Pat {
	if len(l) == 1 {
		return l[0]
	}
	return api.Pat{Kind: kind, Kids: l}
}

// item reads a node, an edge or a group, if one comes next.
func (p *parser) item() (item api.Pat, ok bool) {
	if p.open("[", &p.groups) {
		item = p.pattern()
		p.shut("]", &p.groups)
		return item, true
	}
	if p.take("(") {
		item = p.filling(api.PatNode)
		p.need(")")
		return item, true
	}
	if open := p.takeOneOf("-[", "<-[", "~[", "<~["); open != "" {
		item = p.filling(api.PatEdge)
		item.Dir = p.direction(open)
		return item, true
	}
	if direction(p.next().Text) != 0 {
		return api.Pat{Kind: api.PatEdge, Dir: p.direction("")}, true
	}
	return api.Pat{}, false
}

// direction reads the sign that says, with the open that was read, which way an edge goes.
func (p *parser) direction(open string) int {
	dir := direction(open + p.next().Text)
	if dir == 0 {
		p.refuse()
	}
	p.skip()
	return dir
}

// direction is that of an open and its close, or of a short form; 0 of all else.
func direction(signs string) int {
	switch signs {
	case "-[" + "]->", "->":
		return api.Right
	case "<-[" + "]-", "<-":
		return api.Left
	case "~[" + "]~", "~":
		return api.Flat
	case "<-[" + "]->", "<->":
		return api.Left + api.Right
	case "<~[" + "]~", "<~":
		return api.Left + api.Flat
	case "~[" + "]~>", "~>":
		return api.Flat + api.Right
	case "-[" + "]-", "-":
		return api.Left + api.Flat + api.Right
	}
	return 0
}

// filling reads what stands within a node or an edge, of which there may be nothing.
func (p *parser) filling(kind int) api.Pat {
	f := api.Pat{Kind: kind, Var: p.takeWord()}
	if p.take(":") {
		f.Label = p.labels()
	}
	if p.take("WHERE") {
		f.Where = p.expr()
	}
	p.tooDeep = p.tooDeep || isTooDeep(f.Label, kidsOfExpr) || isTooDeep(f.Where, kidsOfExpr)
	return f
}

// times is the item, or it so many times, if that comes next.
func (p *parser) times(item api.Pat) api.Pat {
	least, most := 0, endless
	at := p.next().At
	switch p.takeOneOf("*", "+", "?", "{") {
	case "*":
	case "+":
		least = 1
	case "?":
		most = 1
	case "{":
		least, most = p.bounds(at)
	default:
		return item
	}
	return api.Pat{Kind: api.PatQuant, Min: least, Max: most, Kids: []api.Pat{item}}
}

// bounds reads what stands behind the `{` at this place, which is what is wrong if its numbers are.
func (p *parser) bounds(at int) (least, most int) {
	low := p.bound(at)
	high := low
	if p.take(",") {
		high = endless
		if p.next().Kind == lex.TokNumber {
			high = p.bound(at)
		}
	}
	p.need("}")
	switch {
	case high == 0 || high != endless && low > high:
		panic(wrong{at, api.ErrSyntax})
	case max(low, high) > api.MaxTimes:
		panic(wrong{at, api.ErrLimit})
	}
	return int(low), int(high)
}

func (p *parser) bound(at int) int64 {
	n, isInt := p.number()
	if !isInt {
		panic(wrong{at, api.ErrSyntax})
	}
	return n
}
