package parse

import "triggerstore/api"

// trigger reads a trigger, from its name on.
func (p *parser) trigger() api.Trigger {
	t := api.Trigger{Name: p.name(), Before: p.choose("BEFORE", "AFTER") == 0}
	t.Event = [...]int{api.Insert, api.Update, api.Delete}[p.choose("INSERT", "UPDATE", "DELETE")]
	if t.Event == api.Update {
		t.Of = p.namesBehind("OF")
	}
	p.expect("ON")
	t.Table = p.name()
	p.expect("FOR", "EACH")
	t.EachRow = p.choose("ROW", "STATEMENT") == 0
	t.Precedes = p.namesBehind("PRECEDES")
	t.Follows = p.namesBehind("FOLLOWS")
	t.Rank = optional(p, "RANK", p.rank)
	t.When = optional(p, "WHEN", p.condition)
	p.expect("BEGIN")
	t.Actions = p.actions()
	return t
}

// namesBehind reads names behind a keyword, or nothing if the keyword is not next.
func (p *parser) namesBehind(keyword string) []string {
	if !p.accept(keyword) {
		return nil
	}
	return p.names()
}

func (p *parser) rank() api.Rank {
	r := api.Rank{Table: p.name()}
	p.expect(".")
	r.Column = p.name()
	p.expect("FROM")
	r.Low = p.limit()
	p.expect("TO")
	r.High = p.limit()
	return r
}

// limit reads a number that may have a minus sign, which is no operator here: a limit is no expression.
func (p *parser) limit() int64 {
	if p.accept("-") {
		return -p.number()
	}
	return p.number()
}

// condition reads a condition whose parentheses are not its own, so that a query there has another pair.
func (p *parser) condition() api.Expr {
	return enclosed(p, p.expression)
}

// actions reads the actions of a trigger with the keyword that ends them.
func (p *parser) actions() []api.Action {
	var l []api.Action
	for len(l) == 0 || !p.accept("END") {
		l = append(l, p.action())
		p.expect(";")
	}
	return l
}

func (p *parser) action() api.Action {
	switch {
	case p.accept("ABORT"):
		return api.Action{Kind: api.ActAbort, Text: p.take(api.TokenText)}
	case p.accept("SET"):
		p.expect("NEW", ".")
		return api.Action{Kind: api.ActSet, Sets: []api.Set{p.set()}}
	}
	return p.change()
}
