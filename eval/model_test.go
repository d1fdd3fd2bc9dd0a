package eval_test

import (
	"bytes"
	"hash/crc32"
	"math/big"
	"math/rand"
	"slices"
	"strconv"
	"strings"
	"testing"

	"mahout/api"
	"mahout/eval"
)

// state is a call of a model's program: what names stand for, and what was emitted.
type state struct {
	names map[string]any // *big.Int, string or []string
	out   []api.Pair
}

// written is a piece of a program's text, and what it comes to.
type written struct {
	text string
	num  func(*state) *big.Int
	str  func(*state) string
	list func(*state) []string
	run  func(*state)
}

// bounded cuts a number to 2^40 either way.
func bounded(n *big.Int) *big.Int {
	bound := new(big.Int).Lsh(big.NewInt(1), 40)
	if n.CmpAbs(bound) > 0 {
		return bound.Mul(bound, big.NewInt(int64(n.Sign())))
	}
	return n
}

func head(s string) string {
	return string(append(make([]byte, 0, 4096), s[:min(4096, len(s))]...))
}

func flag(yes bool) *big.Int {
	if yes {
		return big.NewInt(1)
	}
	return new(big.Int)
}

// numeral: the number that a text writes.
func numeral(t string) *big.Int {
	if n, right := new(big.Int).SetString(t, 10); right && t[0] != '+' && !strings.Contains(t, "_") {
		return bounded(n)
	}
	return new(big.Int)
}

// place: a number as a length, which is cut to what there is.
func place(n *big.Int, most int) int {
	switch {
	case n.Sign() < 0:
		return 0
	case n.Cmp(big.NewInt(int64(most))) > 0:
		return most
	}
	return int(n.Int64())
}

// author writes programs by chance.
type author struct {
	*rand.Rand
	kinds  map[string]byte // of the names that are bound: n, t or l
	made   int
	budget int
	loops  int
	deep   int
}

func (a *author) name(kind byte) (string, bool) {
	var fit []string
	for name, k := range a.kinds {
		if k == kind {
			fit = append(fit, name)
		}
	}
	slices.Sort(fit)
	if len(fit) == 0 {
		return "", false
	}
	return fit[a.Intn(len(fit))], true
}

func (a *author) number(deep int) written {
	if name, bound := a.name('n'); bound && a.Intn(4) == 0 {
		return written{text: name, num: func(s *state) *big.Int { return s.names[name].(*big.Int) }}
	}
	a.budget--
	list, listed := a.name('l')
	choice := a.Intn(18)
	switch {
	case deep > 6 || a.budget < 0 || choice < 2:
		n := a.Intn(1 << a.Intn(30) % 1000000000)
		if a.Intn(3) == 0 {
			n = 999999999 - n
		}
		return written{text: strconv.Itoa(n), num: func(*state) *big.Int { return big.NewInt(int64(n)) }}
	case choice < 10:
		return a.arithmetic(deep)
	case choice < 14 || !listed:
		return a.ofTexts(deep)
	}
	name := []string{"sum", "max", "min", "count"}[choice-14]
	return written{text: name + "(" + list + ")", num: func(s *state) *big.Int {
		values := s.names[list].([]string)
		n := new(big.Int)
		for i, v := range values {
			switch m := numeral(v); {
			case name == "count":
				n = big.NewInt(int64(len(values)))
			case name == "sum":
				n = bounded(m.Add(m, n))
			case i == 0 || m.Cmp(n) > 0 && name == "max" || m.Cmp(n) < 0 && name == "min":
				n = m
			}
		}
		return n
	}}
}

func (a *author) arithmetic(deep int) written {
	name := []string{"add", "sub", "mul", "mul", "div", "lt", "not", "and", "or"}[a.Intn(9)]
	x, y := a.number(deep+1), written{}
	text := name + "(" + x.text
	if name != "not" {
		y = a.number(deep + 1)
		text += ", " + y.text
	} else {
		y.num = func(*state) *big.Int { return nil }
	}
	return written{text: text + ")", num: func(s *state) *big.Int {
		p, q, r := x.num(s), y.num(s), new(big.Int)
		switch name {
		case "add":
			r.Add(p, q)
		case "sub":
			r.Sub(p, q)
		case "mul":
			r.Mul(p, q)
		case "div":
			if q.Sign() != 0 {
				r.Quo(p, q)
			}
		case "lt":
			r = flag(p.Cmp(q) < 0)
		case "not":
			r = flag(p.Sign() == 0)
		case "and":
			r = flag(p.Sign()*q.Sign() != 0)
		case "or":
			r = flag(p.Sign() != 0 || q.Sign() != 0)
		}
		return bounded(r)
	}}
}

func (a *author) ofTexts(deep int) written {
	x := a.str(deep + 1)
	switch name := []string{"len", "num", "eq", "less"}[a.Intn(4)]; name {
	case "len":
		return written{text: "len(" + x.text + ")", num: func(s *state) *big.Int { return big.NewInt(int64(len(x.str(s)))) }}
	case "num":
		return written{text: "num(" + x.text + ")", num: func(s *state) *big.Int { return numeral(x.str(s)) }}
	default:
		y := a.str(deep + 1)
		return written{text: name + "(" + x.text + ", " + y.text + ")", num: func(s *state) *big.Int {
			order := bytes.Compare([]byte(x.str(s)), []byte(y.str(s)))
			return flag(order == 0 && name == "eq" || order < 0 && name == "less")
		}}
	}
}

func (a *author) str(deep int) written {
	a.budget--
	list, listed := a.name('l')
	choice := a.Intn(14)
	switch {
	case choice < 4:
		name, _ := a.name('t') // key is always there
		return written{text: name, str: func(s *state) string { return s.names[name].(string) }}
	case deep > 6 || a.budget < 0 || choice < 6:
		t := []string{"", " ", "a", "-", "7", "ab", "aa", ",", "Zz", strings.Repeat("xY", 300)}[a.Intn(10)]
		return written{text: `"` + t + `"`, str: func(*state) string { return t }}
	case choice < 12 || !listed:
		return a.textual(deep)
	case choice == 12:
		name := []string{"first", "last"}[a.Intn(2)]
		return written{text: name + "(" + list + ")", str: func(s *state) string {
			values := slices.Clone(s.names[list].([]string))
			if name == "last" {
				slices.Reverse(values)
			}
			return head(append(values, "")[0])
		}}
	}
	x := a.str(deep + 1)
	return written{text: "join(" + list + ", " + x.text + ")", str: func(s *state) string {
		return head(strings.Join(s.names[list].([]string), x.str(s)))
	}}
}

func (a *author) textual(deep int) written {
	name := []string{"text", "cat", "cat", "cut", "upper", "lower"}[a.Intn(6)]
	if name == "text" {
		n := a.number(deep + 1)
		return written{text: "text(" + n.text + ")", str: func(s *state) string { return n.num(s).String() }}
	}
	x := a.str(deep + 1)
	switch name {
	case "cat":
		y := a.str(deep + 1)
		return written{text: "cat(" + x.text + ", " + y.text + ")", str: func(s *state) string { return head(x.str(s) + y.str(s)) }}
	case "cut":
		from, n := a.number(deep+1), a.number(deep+1)
		return written{text: "cut(" + x.text + ", " + from.text + ", " + n.text + ")", str: func(s *state) string {
			rest := x.str(s)
			rest = rest[place(from.num(s), len(rest)):]
			return head(rest[:place(n.num(s), len(rest))])
		}}
	}
	change := func(r byte) byte {
		if strings.Contains("abcdefghijklmnopqrstuvwxyz", strings.ToLower(string(rune(r)))) && r < 128 && (r&32 != 0) == (name == "upper") {
			return r ^ 32
		}
		return r
	}
	return written{text: name + "(" + x.text + ")", str: func(s *state) string {
		changed := []byte(head(x.str(s)))
		for i := range changed {
			changed[i] = change(changed[i])
		}
		return string(changed)
	}}
}

// block writes a block; names that it binds go with it.
func (a *author) block() written {
	had := map[string]byte{}
	for name, kind := range a.kinds {
		had[name] = kind
	}
	a.deep++
	var all []written
	text := "{ "
	for a.budget > 0 && a.Intn(5) > 0 {
		s := a.stmt()
		all = append(all, s)
		text += s.text
	}
	a.deep--
	a.kinds = had
	return written{text: text + "} ", run: func(s *state) {
		for _, one := range all {
			one.run(s)
		}
	}}
}

func (a *author) stmt() written {
	a.budget--
	choice := a.Intn(8)
	switch {
	case choice == 0 && a.deep < 8:
		n, yes := a.number(0), a.block()
		no := written{run: func(*state) {}}
		text := "if " + n.text + " " + yes.text
		if a.Intn(2) == 0 {
			no = a.block()
			text += "else " + no.text
		}
		return written{text: text, run: func(s *state) {
			if n.num(s).Sign() != 0 {
				yes.run(s)
				return
			}
			no.run(s)
		}}
	case choice < 3 && a.deep < 8 && a.loops < 2:
		return a.loop()
	case choice == 4:
		return a.let()
	}
	x, y := a.str(0), a.str(0)
	return written{text: "emit " + x.text + ", " + y.text + "; ", run: func(s *state) {
		if len(s.out) < 1024 {
			s.out = append(s.out, api.Pair{Key: x.str(s), Value: y.str(s)})
		}
	}}
}

// fresh: a name that isn't bound, though perhaps one that was, in a block that is over.
func (a *author) fresh() string {
	for {
		name := "v" + strconv.Itoa(a.Intn(6+len(a.kinds)))
		if a.kinds[name] == 0 {
			return name
		}
	}
}

func (a *author) let() written {
	name := a.fresh()
	kind := "ntl"[a.Intn(3)]
	list, listed := a.name('l')
	x := written{}
	switch {
	case kind == 'l' && listed:
		x = written{text: list, run: func(s *state) { s.names[name] = s.names[list] }}
	case kind == 'n':
		x = a.number(0)
		x.run = func(s *state) { s.names[name] = x.num(s) }
	default:
		kind = 't'
		x = a.str(0)
		x.run = func(s *state) { s.names[name] = x.str(s) }
	}
	a.kinds[name] = kind
	return written{text: "let " + name + " = " + x.text + "; ", run: x.run}
}

func (a *author) loop() written {
	name := a.fresh()
	list, listed := a.name('l')
	values := func(s *state) []string { return s.names[list].([]string) }
	text := "for " + name + " in " + list + " "
	if !listed || a.Intn(2) == 0 {
		x, by := a.str(0), a.str(0)
		text = "each " + name + " in " + x.text + " by " + by.text + " "
		values = func(s *state) []string {
			if by.str(s) == "" {
				return []string{x.str(s)}
			}
			return strings.Split(x.str(s), by.str(s))
		}
	}
	a.loops++
	a.kinds[name] = 't'
	body := a.block()
	delete(a.kinds, name)
	a.loops--
	return written{text: text + body.text, run: func(s *state) {
		all := values(s)
		for _, t := range all[:min(256, len(all))] {
			s.names[name] = t
			body.run(s)
		}
	}}
}

// texts by chance, of which some are numbers, long, or have many pieces.
func anyText(r *rand.Rand) string {
	switch r.Intn(8) {
	case 0:
		return strconv.Itoa(r.Intn(2000) - 1000)
	case 1:
		return strconv.Itoa((r.Intn(3)-1)<<40 + r.Intn(3) - 1)
	case 2:
		return strings.Repeat([]string{"a", "b ", "a,", "-7,"}[r.Intn(4)], r.Intn(1+r.Intn(2000)))
	case 3:
		return "-00" + strconv.Itoa(r.Intn(50))
	}
	b := make([]byte, r.Intn(12))
	for i := range b {
		b[i] = "aab ,-7Zz\xc3\xa9\x00"[r.Intn(12)]
	}
	return string(b)
}

func anyTexts(r *rand.Rand) []string {
	var list []string
	for range r.Intn(1 + r.Intn(1+r.Intn(80))) {
		list = append(list, anyText(r))
	}
	return list
}

// P17.1, P17.2: any programs, held against closures that were made when they were written.
func TestAnyPrograms(t *testing.T) {
	r := rand.New(rand.NewSource(1))
	looped := 0
	for round := range 6000 {
		a := &author{Rand: r}
		write := func(budget int, names map[string]byte) written {
			a.kinds, a.budget = names, budget
			return a.block()
		}
		gathered := func() map[string]byte { return map[string]byte{"key": 't', "values": 'l'} }
		inMap := write(r.Intn(40), map[string]byte{"key": 't', "value": 't'})
		inCombine, inReduce := write(r.Intn(20), gathered()), write(r.Intn(40), gathered())
		a.kinds, a.budget = map[string]byte{"key": 't', "parts": 'n'}, 8
		part := a.number(0)
		source := "map " + inMap.text + "combine " + inCombine.text + "reduce " + inReduce.text + "part " + part.text + ";"
		if len(source) > api.MaxCode || strings.Count(source, "each ")+strings.Count(source, "for ") > 6 {
			continue
		}
		p := parsed(t, source)
		looped += strings.Count(source, "each ") + strings.Count(source, "for ")
		key, value, values := anyText(r), anyText(r), anyTexts(r)
		had := slices.Clone(values)

		s := &state{names: map[string]any{"key": key, "value": value}}
		inMap.run(s)
		wantPairs(t, "Map of "+source, eval.Map(p, key, value), s.out)
		s = &state{names: map[string]any{"key": key, "values": values}}
		inCombine.run(s)
		wantPairs(t, "Combine of "+source, eval.Combine(p, key, values), s.out)
		s = &state{names: map[string]any{"key": key, "values": values}}
		inReduce.run(s)
		wantPairs(t, "Reduce of "+source, eval.Reduce(p, key, values), s.out)
		parts := []int{r.Intn(10) - 2, r.Intn(64) + 1, 1<<40 + r.Intn(5), 1<<63 - 1 - r.Intn(2)}[r.Intn(4)]
		want := 0
		if parts > 0 {
			s = &state{names: map[string]any{"key": key, "parts": bounded(big.NewInt(int64(parts)))}}
			want = int(new(big.Int).Mod(part.num(s), big.NewInt(int64(parts))).Int64())
		}
		wantPart(t, p, key, parts, want)
		if !slices.Equal(values, had) {
			t.Error("the values were changed")
		}
		if t.Failed() {
			t.Fatalf("in round %d", round)
		}
	}
	if looped < 1000 {
		t.Errorf("%d loops were gone through", looped)
	}
}

// P17.2: any keys without a part expression, held against the library's CRC-32C.
func TestAnyKeys(t *testing.T) {
	r := rand.New(rand.NewSource(2))
	p := parsed(t, counting)
	for range 2000 {
		key, parts := anyText(r), 1+r.Intn(1<<r.Intn(40))
		sum := crc32.Checksum([]byte(key), crc32.MakeTable(crc32.Castagnoli))
		wantPart(t, p, key, parts, int(sum)%parts)
	}
}
