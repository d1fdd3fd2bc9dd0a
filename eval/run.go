package eval

import (
	"iter"
	"slices"
	"strings"

	"mahout/api"
	"mahout/lang"
)

// worth is what an expression comes to: a number, a text or a list of texts. Which of them it is was looked at when the program was read.
type worth struct {
	num  int
	text string
	list []string
}

// call is one call of a program.
//
// A name stays bound behind its block's end: nothing there can ask for it till it is bound anew.
type call struct {
	bound   map[string]worth
	emitted []api.Pair
}

// begun: a call for a key.
func begun(key string) *call {
	return &call{bound: map[string]worth{"key": {text: key}}}
}

func (c *call) bind(name string, w worth) {
	c.bound[name] = w
}

// block does the statements in order.
func (c *call) block(body []lang.Stmt) {
	for i := range body {
		c.statement(&body[i])
	}
}

func (c *call) statement(s *lang.Stmt) {
	switch s.Op {
	case "emit":
		c.emit(&s.A, &s.B)
	case "let":
		c.bind(s.Name, c.value(&s.A))
	case "if":
		if c.value(&s.A).num != 0 {
			c.block(s.Body)
		} else {
			c.block(s.Else)
		}
	case "each":
		text, by := c.value(&s.A).text, c.value(&s.B).text
		c.loop(s.Name, pieces(text, by), func() { c.block(s.Body) })
	case "for":
		c.loop(s.Name, slices.Values(c.value(&s.A).list), func() { c.block(s.Body) })
	}
}

// emit copies the texts: they may be pieces of what was handed in.
func (c *call) emit(key, value *lang.Expr) {
	if len(c.emitted) == api.MaxEmit {
		return
	}
	c.emitted = append(c.emitted, api.Pair{
		Key:   strings.Clone(c.value(key).text),
		Value: strings.Clone(c.value(value).text),
	})
}

// loop runs the body for the first of these texts, each in turn bound to the name.
func (c *call) loop(name string, texts iter.Seq[string], body func()) {
	done := 0
	for t := range texts {
		c.bind(name, worth{text: t})
		body()
		done++
		if done == api.MaxPieces {
			return
		}
	}
}

// pieces hands out what stands between the places where by stands in the text, from the left; of an empty one, the whole text.
func pieces(text, by string) iter.Seq[string] {
	return func(yield func(string) bool) {
		rest := text
		for by != "" {
			piece, behind, found := strings.Cut(rest, by)
			if !found {
				break
			}
			if !yield(piece) {
				return
			}
			rest = behind
		}
		yield(rest)
	}
}
