package lang_test

import (
	"maps"
	"math/rand"
	"slices"
	"strconv"
	"strings"
	"testing"

	"mahout/api"
	"mahout/lang"
)

// step looks at the next token, with the place of it and the token behind it: is it taken?
type step func(token string, at int, behind string) bool

// model reads tokens as the words tell it, by a list of steps that are still to be done: the next one is the last.
type model struct {
	todo                 []step
	scopes               []map[string]string // the kinds of what is bound, the innermost last
	blocks, loops, calls int
	kind                 string // of the last expression
	fault                lang.Fault
}

// refuse notes the fault; nothing more is looked at then.
func (m *model) refuse(code api.Errno, at int) bool {
	if m.fault.Code == api.OK {
		m.fault = lang.Fault{Code: code, At: at}
	}
	m.todo = nil
	return true
}

// then lays these steps ahead of those that are to be done.
func (m *model) then(steps ...step) bool {
	slices.Reverse(steps)
	m.todo = append(m.todo, steps...)
	return true
}

func (m *model) bound(name string) string {
	for _, s := range m.scopes {
		if s[name] != "" {
			return s[name]
		}
	}
	return ""
}

func isName(token string) bool {
	c := token[:min(len(token), 1)]
	return (c >= "A" && c <= "Z" || c >= "a" && c <= "z") && !slices.Contains(strings.Fields(reserved), token)
}

// fixed takes this token alone.
func (m *model) fixed(wanted string) step {
	return func(token string, at int, _ string) bool {
		return token == wanted || m.refuse(api.ErrSyntax, at)
	}
}

// perhaps does these steps, where this token stands next (which is taken).
func (m *model) perhaps(wanted string, steps ...step) step {
	return func(token string, _ int, _ string) bool {
		return token == wanted && m.then(steps...)
	}
}

// do takes nothing.
func do(what func()) step {
	return func(string, int, string) bool {
		what()
		return false
	}
}

func (m *model) block(isLoop bool, names map[string]string) step {
	return func(token string, at int, _ string) bool {
		if token != "{" {
			return m.refuse(api.ErrSyntax, at)
		}
		if m.blocks == 8 || isLoop && m.loops == 2 {
			return m.refuse(api.ErrNest, at)
		}
		m.blocks++
		if isLoop {
			m.loops++
		}
		m.scopes = append(m.scopes, names)
		return m.then(m.statements, do(func() {
			m.blocks--
			if isLoop {
				m.loops--
			}
			m.scopes = m.scopes[:len(m.scopes)-1]
		}))
	}
}

func (m *model) statements(token string, at int, _ string) bool {
	if token == "}" {
		return true
	}
	m.then(m.statements)
	name := ""
	loop := func(token string, at int, behind string) bool {
		return m.block(true, map[string]string{name: "t"})(token, at, behind)
	}
	switch token {
	case "emit":
		return m.then(m.expr("t"), m.fixed(","), m.expr("t"), m.fixed(";"))
	case "let":
		return m.then(m.name(&name), m.fixed("="), m.expr(""), do(func() { m.scopes[len(m.scopes)-1][name] = m.kind }), m.fixed(";"))
	case "if":
		return m.then(m.expr("n"), m.block(false, map[string]string{}), m.perhaps("else", m.block(false, map[string]string{})))
	case "each":
		return m.then(m.name(&name), m.fixed("in"), m.expr("t"), m.fixed("by"), m.expr("t"), loop)
	case "for":
		return m.then(m.name(&name), m.fixed("in"), m.expr("l"), loop)
	}
	return m.refuse(api.ErrSyntax, at)
}

func (m *model) name(into *string) step {
	return func(token string, at int, _ string) bool {
		if !isName(token) {
			return m.refuse(api.ErrSyntax, at)
		}
		*into = token
		return m.bound(token) == "" || m.refuse(api.ErrName, at)
	}
}

// is: an expression of this kind has been read, where this one is wanted.
func (m *model) is(kind, wanted string, at int) bool {
	m.kind = kind
	return wanted == "" || kind == wanted || m.refuse(api.ErrType, at)
}

func (m *model) expr(wanted string) step {
	return func(token string, at int, behind string) bool {
		switch {
		case token != "" && token[0] == '"':
			return m.is("t", wanted, at)
		case token != "" && token[0] >= '0' && token[0] <= '9':
			return m.is("n", wanted, at)
		case !isName(token):
			return m.refuse(api.ErrSyntax, at)
		case behind == "(":
			return m.then(m.call(token, at, wanted))
		case m.bound(token) == "":
			return m.refuse(api.ErrName, at)
		}
		return m.is(m.bound(token), wanted, at)
	}
}

func (m *model) call(name string, nameAt int, wanted string) step {
	return func(_ string, at int, _ string) bool {
		if m.calls == 8 {
			return m.refuse(api.ErrNest, at)
		}
		f, known := functions[name]
		if !known {
			return m.refuse(api.ErrName, nameAt)
		}
		m.calls++
		var steps []step
		for _, k := range f.takes {
			steps = append(steps, m.expr(k), m.fixed(","))
		}
		steps[len(steps)-1] = m.fixed(")")
		return m.then(append(steps, do(func() {
			m.calls--
			m.is(f.gives, wanted, nameAt)
		}))...)
	}
}

// faultOf: the fault in these tokens, which stand at these places (and the end at the last one).
func faultOf(tokens []string, places []int) lang.Fault {
	m := &model{}
	gathered := func() map[string]string { return map[string]string{"key": "t", "values": "l"} }
	m.then(m.fixed("map"), m.block(false, map[string]string{"key": "t", "value": "t"}),
		m.perhaps("combine", m.block(false, gathered())), m.fixed("reduce"), m.block(false, gathered()),
		m.perhaps("part", do(func() { m.scopes = []map[string]string{{"key": "t", "parts": "n"}} }), m.expr("n"), m.fixed(";")), m.fixed(""))
	tokens = append(slices.Clone(tokens), "", "")
	for i := 0; len(m.todo) > 0; {
		next := m.todo[len(m.todo)-1]
		m.todo = m.todo[:len(m.todo)-1]
		if next(tokens[i], places[min(i, len(places)-1)], tokens[min(i+1, len(tokens)-1)]) {
			i++
		}
	}
	return m.fault
}

// writer makes programs by chance.
type writer struct {
	*rand.Rand
	tokens       []string
	vars         []string // a kind and a name, each
	deep, loops  int
	made, budget int
}

func (w *writer) put(text string) {
	w.tokens = append(w.tokens, strings.Fields(text)...)
}

func (w *writer) fresh(kind string) string {
	w.made++
	name := "v" + strconv.Itoa(w.made)
	if w.Intn(6) == 0 { // functions' names are as good
		names := slices.Sorted(maps.Keys(functions))
		name = names[w.Intn(len(names))]
		if slices.ContainsFunc(w.vars, func(v string) bool { return v[1:] == name }) {
			return w.fresh(kind)
		}
	}
	w.vars = append(w.vars, kind+name)
	return name
}

func (w *writer) expr(kind string, deep int) {
	w.budget--
	var usable, callable []string
	for _, v := range w.vars {
		if v[:1] == kind {
			usable = append(usable, v[1:])
		}
	}
	for name, f := range functions {
		if f.gives == kind && !strings.Contains(strings.Join(f.takes, ""), "l") || f.gives == kind && slices.Contains(w.vars, "lvalues") {
			callable = append(callable, name)
		}
	}
	slices.Sort(callable)
	choice := w.Intn(3)
	switch {
	case kind == "l" || choice == 0 && len(usable) > 0:
		w.put(usable[w.Intn(len(usable))])
	case choice == 1 && deep < 8 && w.budget > 0:
		name := callable[w.Intn(len(callable))]
		w.put(name + " (")
		for i, k := range functions[name].takes {
			if i > 0 {
				w.put(",")
			}
			w.expr(k, deep+1)
		}
		w.put(")")
	case kind == "n":
		w.put(strconv.Itoa(w.Intn(1 << w.Intn(30) % 1000000000)))
	default:
		w.tokens = append(w.tokens, []string{`""`, `" "`, `"\n"`, `"a\\\"b"`, `"emit"`, `"}"`, `"\\n\t"`}[w.Intn(7)])
	}
}

func (w *writer) block(vars ...string) {
	had := len(w.vars)
	w.vars = append(w.vars, vars...)
	w.deep++
	w.put("{")
	for w.budget > 0 && w.Intn(4) > 0 {
		w.stmt()
	}
	w.put("}")
	w.deep--
	w.vars = w.vars[:had]
}

func (w *writer) stmt() {
	w.budget--
	choice := w.Intn(5)
	switch {
	case choice == 0 && w.deep < 8:
		w.put("if")
		w.expr("n", 0)
		w.block()
		if w.Intn(2) == 0 {
			w.put("else")
			w.block()
		}
	case choice == 1 && w.deep < 8 && w.loops < 2:
		w.loop()
	case choice < 4:
		kinds := "ntl"[:2+min(1, strings.Count(strings.Join(w.vars, " "), "lvalues"))]
		kind := string(kinds[w.Intn(len(kinds))])
		w.put("let")
		had := len(w.vars)
		w.put(w.fresh(kind) + " =")
		bound := w.vars[had:]
		w.vars = w.vars[:had:had] // its own expression doesn't know it
		w.expr(kind, 0)
		w.vars = append(w.vars, bound...)
		w.put(";")
	default:
		w.put("emit")
		w.expr("t", 0)
		w.put(",")
		w.expr("t", 0)
		w.put(";")
	}
}

func (w *writer) loop() {
	had := len(w.vars)
	name := w.fresh("t")
	w.vars = w.vars[:had]
	if slices.Contains(w.vars, "lvalues") && w.Intn(2) == 0 {
		w.put("for " + name + " in")
		w.expr("l", 0)
	} else {
		w.put("each " + name + " in")
		w.expr("t", 0)
		w.put("by")
		w.expr("t", 0)
	}
	w.loops++
	w.block("t" + name)
	w.loops--
}

// program: the tokens of any right program.
func program(r *rand.Rand) []string {
	w := &writer{Rand: r, budget: r.Intn(60)}
	w.put("map")
	w.block("tkey", "tvalue")
	if r.Intn(2) == 0 {
		w.put("combine")
		w.block("tkey", "lvalues")
	}
	w.budget += r.Intn(30)
	w.put("reduce")
	w.block("tkey", "lvalues")
	if r.Intn(2) == 0 {
		w.put("part")
		w.vars = []string{"tkey", "nparts"}
		w.expr("n", 0)
		w.put(";")
	}
	return w.tokens
}

// written: the tokens with any blanks, and the places at which they stand, and that of the end.
func written(r *rand.Rand, tokens []string) (string, []int) {
	text, word := "", false
	var places []int
	for _, token := range append(slices.Clone(tokens), "") {
		isWord := token != "" && !strings.Contains(`{}(),;="`, token[:1])
		if blanks := r.Intn(3); blanks > 0 || word && isWord {
			text += []string{" ", "\n", "\t ", "\r\n"}[r.Intn(4)]
		}
		places = append(places, len(text))
		text += token
		word = isWord
	}
	return text, places
}

// wantExpr: the expression stands where it says.
func wantExpr(t *testing.T, text string, e lang.Expr) {
	t.Helper()
	token := e.Op
	switch e.Op {
	case "":
		return
	case "number":
		token = strconv.Itoa(e.Num)
	case "string":
		token = `"`
	case "var":
		token = e.Text
	}
	if !strings.HasPrefix(text[e.At:], token) {
		t.Errorf("%v stands at %d in %q", e, e.At, text)
	}
	for _, a := range e.Args {
		wantExpr(t, text, a)
	}
}

func wantPlaces(t *testing.T, text string, body []lang.Stmt) {
	t.Helper()
	for _, s := range body {
		wantExpr(t, text, s.A)
		wantExpr(t, text, s.B)
		wantPlaces(t, text, s.Body)
		wantPlaces(t, text, s.Else)
	}
}

// P16.1, P16.2: any right programs, however they are written.
func TestAnyPrograms(t *testing.T) {
	r := rand.New(rand.NewSource(1))
	for range 500 {
		tokens := program(r)
		text, places := written(r, tokens)
		if len(text) > api.MaxCode {
			continue
		}
		if fault := faultOf(tokens, places); fault != (lang.Fault{}) {
			t.Fatalf("the model of %q: %v", text, fault)
		}
		p := parsed(t, text)
		wantPlaces(t, text, slices.Concat(p.Map, p.Combine, p.Reduce, []lang.Stmt{{A: p.Part}}))
		want := strings.ReplaceAll(strings.Join(tokens, " "), " else { }", "")
		if got := lang.Print(p); got != want {
			t.Fatalf("Print of %q: %q, not %q", text, got, want)
		}
		if len(want) <= api.MaxCode && lang.Print(parsed(t, want)) != want {
			t.Fatalf("Print of %q is another", want)
		}
		for i := range tokens { // of a beginning mostly the end is what can't be there
			if _, fault := lang.Parse(text[:places[i]]); fault != faultOf(tokens[:i], places[:i+1]) {
				t.Errorf("Parse(%q): %v, not %v", text[:places[i]], fault, faultOf(tokens[:i], places[:i+1]))
			}
		}
		if t.Failed() {
			t.FailNow()
		}
	}
}

// deepen puts some blocks or calls around what follows a brace or a parenthesis.
func deepen(r *rand.Rand, tokens []string) []string {
	i := r.Intn(len(tokens))
	for tokens[i] != "{" && tokens[i] != "(" {
		i = (i + 1) % len(tokens)
	}
	for n := range r.Intn(9) {
		more := []string{"{", "if", "1"}
		switch {
		case tokens[i] == "(":
			more = []string{"(", []string{"upper", "len", "count", "foo"}[r.Intn(16)/5]}
		case r.Intn(3) == 0:
			more = []string{"{", "each", "x" + strconv.Itoa(n), "in", `""`, "by", `""`}
		}
		tokens = slices.Insert(tokens, i, more...)
	}
	return tokens
}

// P16.1: programs in which some tokens are others, are gone, or stand twice.
func TestAnyFaults(t *testing.T) {
	r := rand.New(rand.NewSource(2))
	pool := append(strings.Fields("{ } ( ) , ; = { } ( ) key value values parts v1 v2 len cat sum add x 1 0 "+reserved), `""`, `" x"`)
	met := map[api.Errno]int{}
	for range 20000 {
		tokens := program(r)
		for range 1 + r.Intn(2) {
			i, j := r.Intn(len(tokens)), r.Intn(len(tokens))
			switch r.Intn(6) {
			case 0:
				tokens = append(slices.Delete(tokens, i, i+1), "}")
			case 1:
				tokens = slices.Insert(tokens, i, pool[r.Intn(len(pool))])
			case 2:
				tokens[i], tokens[j] = tokens[j], tokens[i]
			case 3:
				tokens = slices.Insert(tokens, i, slices.Clone(tokens[min(i, j):max(i, j)])...) // so that names are bound twice
			case 4:
				tokens = deepen(r, tokens)
			default:
				tokens[i] = pool[r.Intn(len(pool))]
			}
		}
		text, places := written(r, tokens)
		if len(text) > api.MaxCode {
			continue
		}
		want := faultOf(tokens, places)
		met[want.Code]++
		if p, fault := lang.Parse(text); fault != want || (p == nil) != (want.Code != api.OK) {
			t.Fatalf("Parse(%q): %v, %v, not %v", text, p, fault, want)
		}
	}
	for _, code := range []api.Errno{api.OK, api.ErrSyntax, api.ErrName, api.ErrType, api.ErrNest} {
		if met[code] < 100 {
			t.Errorf("the fault %d was met %d times", code, met[code])
		}
	}
}

// P1, P16.1: any bytes; a right token alone isn't refused as one.
func TestAnyBytes(t *testing.T) {
	r := rand.New(rand.NewSource(3))
	for range 10000 {
		text, _ := written(r, program(r))
		s := []byte(text[:min(len(text), api.MaxCode)])
		for range 1 + r.Intn(3) {
			switch i := r.Intn(len(s)); r.Intn(3) {
			case 0:
				s[i] = byte(r.Intn(256))
			case 1:
				s = slices.Delete(s, i, min(len(s), i+1+r.Intn(3)))
			default:
				s = s[:i+1]
			}
			if len(s) == 0 {
				break
			}
		}
		p, fault := lang.Parse(string(s))
		if (p == nil) != (fault.Code != api.OK) || fault.At < 0 || fault.At > len(s) {
			t.Fatalf("Parse(%q): %v, %v", s, p, fault)
		}
		if p != nil && lang.Print(parsed(t, string(s))) != lang.Print(p) {
			t.Fatalf("Parse(%q): another program, a second time", s)
		}
	}
}
