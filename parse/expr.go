package parse

import "bridleway/api"

func kidsOfExpr(e api.Expr) []api.Expr { return e.Kids }

// joined is what a sign or key makes of its parts; those of labels stand in no expr.
func joined(sign string, parts ...api.Expr) api.Expr {
	switch sign {
	case "|":
		return api.Expr{Kind: api.LabelOr, Kids: parts}
	case "&":
		return api.Expr{Kind: api.LabelAnd, Kids: parts}
	case "!":
		return api.Expr{Kind: api.LabelNot, Kids: parts}
	case "OR":
		sign = "or"
	case "AND":
		sign = "and"
	case "NOT":
		sign = "not"
	case "IS":
		sign = "isnull"
	}
	return api.Expr{Kind: api.ExprOp, Name: sign, Kids: parts}
}

// chain reads parts with such signs between, and joins them from the left.
func (p *parser) chain(part func() api.Expr, signs ...string) api.Expr {
	e := part()
	for sign := p.takeOneOf(signs...); sign != ""; sign = p.takeOneOf(signs...) {
		e = joined(sign, e, part())
	}
	return e
}

// turned reads a part with any number of a sign ahead. These are counted, since there may be far more of them than calls should be nested.
func (p *parser) turned(sign string, part func() api.Expr) api.Expr {
	count := 0
	for p.take(sign) {
		count++
	}
	e := part()
	for range count {
		e = joined(sign, e)
	}
	return e
}

// inBrackets reads what stands in `(` and `)`, if that comes next.
func (p *parser) inBrackets(read func() api.Expr) (e api.Expr, ok bool) {
	if !p.open("(", &p.brackets) {
		return api.Expr{}, false
	}
	e = read()
	p.shut(")", &p.brackets)
	return e, true
}

func (p *parser) labels() api.Expr { return p.chain(p.both, "|") }

func (p *parser) both() api.Expr { return p.chain(p.not, "&") }

func (p *parser) not() api.Expr { return p.turned("!", p.label) }

func (p *parser) label() api.Expr {
	if e, ok := p.inBrackets(p.labels); ok {
		return e
	}
	if p.take("%") {
		return api.Expr{Kind: api.LabelAny}
	}
	name := p.takeWord()
	if name == "" {
		p.refuse()
	}
	return api.Expr{Kind: api.LabelName, Name: name}
}

func (p *parser) expr() api.Expr { return p.chain(p.and, "OR") }

func (p *parser) and() api.Expr { return p.chain(p.denied, "AND") }

func (p *parser) denied() api.Expr { return p.turned("NOT", p.test) }

func (p *parser) test() api.Expr {
	e := p.sum()
	if sign := p.takeOneOf("=", "<>", "<", "<=", ">", ">="); sign != "" {
		return joined(sign, e, p.sum())
	}
	if p.take("IS") {
		p.need("null")
		return joined("IS", e)
	}
	return e
}

func (p *parser) sum() api.Expr { return p.chain(p.product, "+", "-") }

func (p *parser) product() api.Expr { return p.chain(p.atom, "*") }

func (p *parser) atom() api.Expr {
	if e, ok := p.inBrackets(p.expr); ok {
		return e
	}
	if name := p.takeWord(); name != "" {
		return api.Expr{Kind: api.ExprProp, Name: name}
	}
	return api.Expr{Kind: api.ExprLit, Value: p.literal()}
}
