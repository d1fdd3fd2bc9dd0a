package lang

import (
	"strconv"

	"mahout/api"
)

// variable is a name that is bound.
type variable struct {
	name string
	kind kind
}

// parser reads a program. At the first fault it gives up: it panics with the Fault.
type parser struct {
	tokens               []token // those that aren't read yet: the end is the last one
	bound                []variable
	blocks, loops, calls int // so many are open
}

// here: the token that stands next.
func (p *parser) here() token {
	return p.tokens[0]
}

// take reads the next token, which is of this kind.
func (p *parser) take(kind int) token {
	t := p.here()
	if t.kind != kind {
		panic(Fault{api.ErrSyntax, t.at})
	}
	p.tokens = p.tokens[1:]
	return t
}

// stands: is this mark or word next?
func (p *parser) stands(fixed string) bool {
	t := p.here()
	return t.kind == tokenFixed && t.text == fixed
}

// want reads this mark or word.
func (p *parser) want(fixed string) {
	if !p.stands(fixed) {
		panic(Fault{api.ErrSyntax, p.here().at})
	}
	p.take(tokenFixed)
}

// accept reads this mark or word, if it is next.
func (p *parser) accept(fixed string) bool {
	if !p.stands(fixed) {
		return false
	}
	p.take(tokenFixed)
	return true
}

// limit gives up, where this mark is next and would open one more, and the most are open already.
func (p *parser) limit(mark string, open, most int) {
	if p.stands(mark) && open >= most {
		panic(Fault{api.ErrNest, p.here().at})
	}
}

// program reads all.
func (p *parser) program() *Program {
	var read Program
	key, values := variable{"key", aText}, variable{"values", aList}
	p.want("map")
	read.Map = p.block(key, variable{"value", aText})
	if p.accept("combine") {
		read.Combines = true
		read.Combine = p.block(key, values)
	}
	p.want("reduce")
	read.Reduce = p.block(key, values)
	if p.accept("part") {
		read.Parts = true
		p.bound = []variable{key, {"parts", aNumber}}
		read.Part = p.exprOf(aNumber)
		p.want(";")
	}
	p.take(tokenEnd)
	return &read
}

// block reads a block, in which these are bound too.
func (p *parser) block(names ...variable) []Stmt {
	p.limit("{", p.blocks, api.MaxNest)
	p.want("{")
	p.blocks++
	around := len(p.bound)
	p.bound = append(p.bound, names...)
	var body []Stmt
	for !p.accept("}") {
		body = append(body, p.stmt())
	}
	p.bound = p.bound[:around]
	p.blocks--
	return body
}

// loop reads a loop's block.
func (p *parser) loop(name string) []Stmt {
	p.limit("{", p.loops, api.MaxLoops)
	p.loops++
	body := p.block(variable{name, aText})
	p.loops--
	return body
}

// stmt reads a statement.
func (p *parser) stmt() Stmt {
	switch {
	case p.accept("emit"):
		return p.emit()
	case p.accept("let"):
		return p.let()
	case p.accept("if"):
		return p.choice()
	case p.accept("each"):
		return p.each()
	case p.accept("for"):
		return p.over()
	}
	panic(Fault{api.ErrSyntax, p.here().at})
}

// emit reads what follows the word; so do those below.
func (p *parser) emit() Stmt {
	s := Stmt{Op: "emit", A: p.exprOf(aText)}
	p.want(",")
	s.B = p.exprOf(aText)
	p.want(";")
	return s
}

func (p *parser) let() Stmt {
	s := Stmt{Op: "let", Name: p.newName()}
	p.want("=")
	value, kind := p.expr()
	s.A = value
	p.bound = append(p.bound, variable{s.Name, kind}) // not sooner: its own expression doesn't know it
	p.want(";")
	return s
}

func (p *parser) choice() Stmt {
	s := Stmt{Op: "if", A: p.exprOf(aNumber), Body: p.block()}
	if p.accept("else") {
		s.Else = p.block()
	}
	return s
}

func (p *parser) each() Stmt {
	s := Stmt{Op: "each", Name: p.newName()}
	p.want("in")
	s.A = p.exprOf(aText)
	p.want("by")
	s.B = p.exprOf(aText)
	s.Body = p.loop(s.Name)
	return s
}

func (p *parser) over() Stmt {
	s := Stmt{Op: "for", Name: p.newName()}
	p.want("in")
	s.A = p.exprOf(aList)
	s.Body = p.loop(s.Name)
	return s
}

// newName reads a name that isn't bound yet.
func (p *parser) newName() string {
	t := p.take(tokenName)
	if _, bound := p.kindOf(t.text); bound {
		panic(Fault{api.ErrName, t.at})
	}
	return t.text
}

// kindOf: the kind of the variable of this name; false, where none is bound.
func (p *parser) kindOf(name string) (kind, bool) {
	for _, v := range p.bound {
		if v.name == name {
			return v.kind, true
		}
	}
	return 0, false
}

// exprOf reads an expression of this kind.
func (p *parser) exprOf(wanted kind) Expr {
	e, kind := p.expr()
	if kind != wanted {
		panic(Fault{api.ErrType, e.At})
	}
	return e
}

// expr reads an expression of any kind; which it is.
func (p *parser) expr() (Expr, kind) {
	switch t := p.here(); t.kind {
	case tokenNumber:
		p.take(tokenNumber)
		n, _ := strconv.Atoi(t.text) // few digits
		return Expr{Op: "number", At: t.at, Num: n}, aNumber
	case tokenText:
		p.take(tokenText)
		return Expr{Op: "string", At: t.at, Text: t.text}, aText
	}
	name := p.take(tokenName)
	if p.stands("(") {
		return p.call(name)
	}
	kind, bound := p.kindOf(name.text)
	if !bound {
		panic(Fault{api.ErrName, name.at})
	}
	return Expr{Op: "var", At: name.at, Text: name.text}, kind
}

// call reads what follows a function's name.
func (p *parser) call(name token) (Expr, kind) {
	p.limit("(", p.calls, api.MaxNest)
	p.want("(")
	f, there := functionOf(name.text)
	if !there {
		panic(Fault{api.ErrName, name.at})
	}
	p.calls++
	e := Expr{Op: name.text, At: name.at}
	for i := range len(f.takes) {
		if i > 0 {
			p.want(",")
		}
		e.Args = append(e.Args, p.exprOf(kind(f.takes[i])))
	}
	p.want(")")
	p.calls--
	return e, f.gives
}
