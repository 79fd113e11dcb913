package parse

import (
	"strconv"

	"triggerstore/api"
)

// parser goes through the tokens of a text. It looks at a token before it takes it, and at the first one that it cannot take it panics with an error number, so that the error is always at the token to which it has come.
type parser struct {
	tokens []api.Token
	at     int
	levels int // how many levels are open
}

// newParser returns a parser of the tokens of a text with a length. The end of the text becomes a token of no kind, which cannot be taken, so that there is always a token to look at.
func newParser(tokens []api.Token, length int) *parser {
	return &parser{tokens: append(tokens, api.Token{At: length})}
}

func (p *parser) peek() api.Token {
	return p.tokens[p.at]
}

// sees reports whether the next token is this keyword or symbol. A text can look like either, but is neither.
func (p *parser) sees(text string) bool {
	t := p.peek()
	return (t.Kind == api.TokenWord || t.Kind == api.TokenSymbol) && t.Text == text
}

// accept takes a keyword or a symbol if it is next, and reports whether it was.
func (p *parser) accept(text string) bool {
	yes := p.sees(text)
	if yes {
		p.at++
	}
	return yes
}

// expect takes keywords and symbols, which must be next.
func (p *parser) expect(texts ...string) {
	for _, text := range texts {
		if !p.accept(text) {
			panic(api.ErrSyntax)
		}
	}
}

// choose takes one of some keywords, which must be next, and returns its index.
func (p *parser) choose(texts ...string) int {
	for i, text := range texts {
		if p.accept(text) {
			return i
		}
	}
	panic(api.ErrSyntax)
}

func (p *parser) expectEnd() {
	if p.at < len(p.tokens)-1 {
		panic(api.ErrSyntax)
	}
}

// take takes a token of a kind, which must be next, and returns its Text.
func (p *parser) take(kind int) string {
	t := p.peek()
	if t.Kind != kind {
		panic(api.ErrSyntax)
	}
	p.at++
	return t.Text
}

func (p *parser) name() string {
	return p.take(api.TokenName)
}

func (p *parser) number() int64 {
	n, _ := strconv.ParseInt(p.take(api.TokenNumber), 10, 64) // such a token is within these bounds
	return n
}

// open takes a keyword or a symbol that opens a level. That it cannot be next is found out first.
func (p *parser) open(text string) {
	if p.sees(text) && p.levels == api.MaxLevels {
		panic(api.ErrDepth)
	}
	p.expect(text)
	p.levels++
}

// close ends the level that was opened last.
func (p *parser) close() {
	p.levels--
}

// enclosed reads parentheses with what read finds inside them.
func enclosed[T any](p *parser, read func() T) T {
	p.open("(")
	inside := read()
	p.expect(")")
	p.close()
	return inside
}

// list reads what read finds once or more often, with commas in between.
func list[T any](p *parser, read func() T) []T {
	l := []T{read()}
	for p.accept(",") {
		l = append(l, read())
	}
	return l
}

func (p *parser) names() []string {
	return list(p, p.name)
}

// optional reads what read finds behind a keyword, or nothing if the keyword is not next.
func optional[T any](p *parser, keyword string, read func() T) []T {
	if !p.accept(keyword) {
		return nil
	}
	return []T{read()}
}
