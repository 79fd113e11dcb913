package parse

import "triggerstore/api"

func (p *parser) statement() api.Statement {
	switch {
	case p.accept("CREATE"):
		return p.create()
	case p.accept("DROP"):
		return p.drop()
	case p.sees("SELECT"):
		return api.Statement{Kind: api.StmtSelect, Query: p.query()}
	}
	return api.Statement{Kind: api.StmtChange, Action: p.change()}
}

func (p *parser) create() api.Statement {
	if p.choose("TABLE", "TRIGGER") == 0 {
		return api.Statement{Kind: api.StmtCreateTable, Schema: p.schema()}
	}
	return api.Statement{Kind: api.StmtCreateTrigger, Trigger: p.trigger()}
}

func (p *parser) drop() api.Statement {
	kind := [...]int{api.StmtDropTable, api.StmtDropTrigger}[p.choose("TABLE", "TRIGGER")]
	return api.Statement{Kind: kind, Name: p.name()}
}

func (p *parser) schema() api.Schema {
	return api.Schema{Name: p.name(), Columns: enclosed(p, p.columns)}
}

func (p *parser) columns() []api.Column {
	return list(p, p.newColumn)
}

func (p *parser) newColumn() api.Column {
	c := api.Column{Name: p.name()}
	c.Type = [...]int{api.Int, api.Bool, api.Text}[p.choose("INT", "BOOL", "TEXT")]
	switch {
	case p.accept("NOT"):
		p.expect("NULL")
		c.NotNull = true
	case p.accept("PRIMARY"):
		p.expect("KEY")
		c.NotNull, c.Key = true, true // a key is not null without saying so
	}
	return c
}

func (p *parser) query() api.Query {
	p.expect("SELECT")
	if p.accept("*") {
		return p.from(api.Query{Star: true})
	}
	return p.from(api.Query{Items: p.expressions()})
}

// change reads a change of a table.
func (p *parser) change() api.Action {
	switch p.choose("INSERT", "UPDATE", "DELETE") {
	case 0:
		return p.insert()
	case 1:
		return p.update()
	}
	p.expect("FROM")
	return api.Action{Kind: api.ActDelete, Table: p.name(), Where: p.where()}
}

// insert reads an insert behind its first keyword.
func (p *parser) insert() api.Action {
	p.expect("INTO")
	a := api.Action{Kind: api.ActInsert, Table: p.name()}
	if p.sees("SELECT") {
		a.Query = []api.Query{p.query()}
		return a
	}
	p.expect("VALUES")
	a.Rows = list(p, p.row)
	return a
}

func (p *parser) row() []api.Expr {
	return enclosed(p, p.expressions)
}

// update reads an update behind its first keyword.
func (p *parser) update() api.Action {
	a := api.Action{Kind: api.ActUpdate, Table: p.name()}
	p.expect("SET")
	a.Sets = list(p, p.set)
	a.Where = p.where()
	return a
}

func (p *parser) set() api.Set {
	column := p.name()
	p.expect("=")
	return api.Set{Column: column, Expr: p.expression()}
}
