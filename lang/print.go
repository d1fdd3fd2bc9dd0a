package lang

import "strconv"

// writer gathers a program's tokens as they are written.
type writer struct {
	tokens []string
}

func (w *writer) put(tokens ...string) {
	w.tokens = append(w.tokens, tokens...)
}

func (w *writer) program(p *Program) {
	w.put("map")
	w.block(p.Map)
	if p.Combines {
		w.put("combine")
		w.block(p.Combine)
	}
	w.put("reduce")
	w.block(p.Reduce)
	if p.Parts {
		w.put("part")
		w.expr(p.Part)
		w.put(";")
	}
}

func (w *writer) block(body []Stmt) {
	w.put("{")
	for _, s := range body {
		w.stmt(s)
	}
	w.put("}")
}

func (w *writer) stmt(s Stmt) {
	w.put(s.Op)
	switch s.Op {
	case "emit":
		w.list(s.A, s.B)
		w.put(";")
	case "let":
		w.put(s.Name, "=")
		w.expr(s.A)
		w.put(";")
	case "if":
		w.expr(s.A)
		w.block(s.Body)
		if len(s.Else) > 0 {
			w.put("else")
			w.block(s.Else)
		}
	case "each":
		w.put(s.Name, "in")
		w.expr(s.A)
		w.put("by")
		w.expr(s.B)
		w.block(s.Body)
	case "for":
		w.put(s.Name, "in")
		w.expr(s.A)
		w.block(s.Body)
	}
}

// list puts expressions with a comma between each two.
func (w *writer) list(exprs ...Expr) {
	for i, e := range exprs {
		if i > 0 {
			w.put(",")
		}
		w.expr(e)
	}
}

func (w *writer) expr(e Expr) {
	switch e.Op {
	case "number":
		w.put(strconv.Itoa(e.Num))
	case "string":
		w.put(quoted(e.Text))
	case "var":
		w.put(e.Text)
	default:
		w.put(e.Op, "(")
		w.list(e.Args...)
		w.put(")")
	}
}
