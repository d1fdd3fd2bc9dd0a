package eval_test

import (
	"slices"
	"strconv"
	"strings"
	"testing"
	"unsafe"

	"mahout/api"
	"mahout/crc"
	"mahout/eval"
	"mahout/lang"
)

// counting is the chapter's example.
const counting = `map { each w in value by " " { emit w, "1"; } } reduce { emit key, text(sum(values)); }`

// P17.1: the chapter's example.
func TestExample(t *testing.T) {
	p := parsed(t, counting)
	wantPairs(t, "Map", eval.Map(p, "", "a b a"), pairs("a", "1", "b", "1", "a", "1"))
	wantPairs(t, "Reduce", eval.Reduce(p, "a", []string{"1", "1"}), pairs("a", "2"))
	wantText(t, `cut("abc", 1, 9)`, "", "", "bc")
	wantNum(t, `num("-007")`, "", "", -7)
	wantNum(t, `num("1x")`, "", "", 0)
}

// P17.1: emit puts pairs in order; the texts that are handed in have any length.
func TestEmit(t *testing.T) {
	wantPairs(t, "nothing", mapped(t, "", "k", "v"), nil)
	wantPairs(t, "emits", mapped(t, `emit value, key; emit "b", "a"; emit value, key; emit "", "";`, "k", "v"),
		pairs("v", "k", "b", "a", "v", "k", "", ""))
	long, longer := strings.Repeat("x", api.MaxCell+1), strings.Repeat("y", 1<<20)
	wantPairs(t, "long ones", mapped(t, `emit key, value; emit cat(key, ""), upper(value);`, long, longer),
		pairs(long, longer, long[:api.MaxCell], strings.Repeat("Y", api.MaxCell)))
	wantPairs(t, "escapes", mapped(t, `emit "a\"\\\n\tb", key;`, "\x00\xff", ""), pairs("a\"\\\n\tb", "\x00\xff"))
}

// letters: so many pieces that are told from one another, and the pairs that a loop over them emits.
func letters(n int) ([]string, []api.Pair) {
	var pieces []string
	var emitted []api.Pair
	for i := range n {
		pieces = append(pieces, strconv.Itoa(i))
		emitted = append(emitted, api.Pair{Key: strconv.Itoa(i)})
	}
	return pieces, emitted
}

// P17.1: a call emits MaxEmit pairs, and goes on without more; the next call begins anew.
func TestMaxEmit(t *testing.T) {
	pieces, once := letters(api.MaxPieces)
	value := strings.Join(pieces, ",")
	four := `each a in "a,b,c,d" by "," { each w in value by "," { emit w, ""; } } `
	for _, c := range []struct {
		body string
		want []api.Pair
	}{
		{four, slices.Repeat(once, 4)},
		{four + `emit "more", "";`, slices.Repeat(once, 4)},
		{`emit "ahead", ""; ` + four, append(pairs("ahead", ""), slices.Repeat(once, 4)[:1023]...)},
		{`emit "ahead", ""; ` + four + `emit "more", "";`, append(pairs("ahead", ""), slices.Repeat(once, 4)[:1023]...)},
		{`each a in value by "," { each w in value by "," { if eq(w, "255") { emit a, ""; } } }`, once},
		{`each a in "a,b,c" by "," { each w in value by "," { emit w, ""; } } emit "more", "";`, append(slices.Repeat(once, 3), pairs("more", "")...)},
	} {
		p := parsed(t, "map { "+c.body+" } reduce { }")
		for range 2 {
			wantPairs(t, c.body, eval.Map(p, "", value), c.want)
		}
	}
	five := strings.Repeat(`for v in values { emit v, ""; } `, 5)
	wantPairs(t, five, reduced(t, five, "k", pieces), slices.Repeat(once, 4))
	p := parsed(t, "map { } combine { "+five+" } reduce { }")
	wantPairs(t, five, eval.Combine(p, "k", pieces), slices.Repeat(once, 4))
}

// P17.1: let binds any kind; in a loop and behind a block the name is bound anew.
func TestLet(t *testing.T) {
	wantPairs(t, "kinds", reduced(t, `let n = count(values); let t = cat(key, "!"); let l = values; emit t, text(n); emit join(l, "-"), t;`, "k", []string{"a", "b"}),
		pairs("k!", "2", "a-b", "k!"))
	wantPairs(t, "in a loop", mapped(t, `each w in value by " " { let n = len(w); if lt(1, n) { let x = upper(w); emit x, text(n); } else { let x = n; emit w, text(add(x, x)); } }`, "", "ab c def"),
		pairs("AB", "2", "c", "2", "DEF", "3"))
	wantPairs(t, "behind a block", mapped(t, `if 1 { let x = 1; emit text(x), ""; } let x = "t"; emit x, ""; each w in "a" by "" { emit cat(w, x), ""; } let w = 5; emit text(w), x;`, "", ""),
		pairs("1", "", "t", "", "at", "", "5", "t"))
	wantPairs(t, "a function's name", mapped(t, `let len = len(key); emit text(len), text(add(len, len(value)));`, "ab", "c"), pairs("2", "3"))
	wantPairs(t, "long", mapped(t, `let v = value; emit v, "";`, "", strings.Repeat("z", 9999)), pairs(strings.Repeat("z", 9999), ""))
}

// P17.1: if asks whether its number isn't 0.
func TestIf(t *testing.T) {
	for expr, yes := range map[string]bool{
		"0":               false,
		"1":               true,
		"sub(1, 2)":       true,
		lowest:            true,
		"sub(3, 3)":       false,
		`eq(key, "k")`:    true,
		`eq(key, "K")`:    false,
		`len("")`:         false,
		`num("x")`:        false,
		`num("0002")`:     true,
		`not(len(key))`:   false,
		`and(1, len(""))`: false,
	} {
		both, one := pairs("no", "", "end", ""), pairs("end", "")
		if yes {
			both, one = pairs("yes", "", "end", ""), pairs("yes", "", "end", "")
		}
		wantPairs(t, "if "+expr+" else", mapped(t, `if `+expr+` { emit "yes", ""; } else { emit "no", ""; } emit "end", "";`, "k", ""), both)
		wantPairs(t, "if "+expr, mapped(t, `if `+expr+` { emit "yes", ""; } emit "end", "";`, "k", ""), one)
	}
}

// P17.1: each goes over the pieces between the places where a text stands, from the left.
func TestEach(t *testing.T) {
	for _, c := range []struct {
		value, by string
		want      []string
	}{
		{"a b a", " ", []string{"a", "b", "a"}},
		{" a  b ", " ", []string{"", "a", "", "b", ""}},
		{"abc", " ", []string{"abc"}},
		{"abc", "", []string{"abc"}},
		{"", "", []string{""}},
		{"", " ", []string{""}},
		{" ", " ", []string{"", ""}},
		{"ab", "abc", []string{"ab"}},
		{"ab", "ab", []string{"", ""}},
		{"aaa", "aa", []string{"", "a"}},
		{"aaaa", "aa", []string{"", "", ""}},
		{"xababay", "aba", []string{"x", "bay"}},
		{"a, b,c, d", ", ", []string{"a", "b,c", "d"}},
		{"é\xffé", "\xc3", []string{"", "\xa9\xff", "\xa9"}},
		{"a\x00b", "\x00", []string{"a", "b"}},
		{"a\nb\n", "\n", []string{"a", "b", ""}},
	} {
		var want []api.Pair
		for _, piece := range c.want {
			want = append(want, api.Pair{Key: piece, Value: c.by})
		}
		wantPairs(t, clip(c.value)+" by "+clip(c.by), mapped(t, `each w in value by key { emit w, key; }`, c.by, c.value), want)
	}
	long := strings.Repeat("x", 5000)
	wantPairs(t, "long pieces", mapped(t, `each w in value by key { emit w, ""; }`, long, "a"+long+long+"b"), pairs("a", "", "", "", "b", ""))
	wantPairs(t, "long pieces", mapped(t, `each w in value by "," { emit w, text(len(w)); }`, "", long+","+long), pairs(long, "5000", long, "5000"))
	wantPairs(t, "made by functions", mapped(t, `each w in lower(value) by cat("b", key) { emit w, ""; }`, "", "aBcbd"), pairs("a", "", "c", "", "d", ""))
}

// P17.1: loops go over the first MaxPieces alone, and end.
func TestMaxPieces(t *testing.T) {
	for _, n := range []int{1, 255, 256, 257, 300} {
		list, want := letters(n)
		want = want[:min(n, 256)]
		wantPairs(t, "each of "+strconv.Itoa(n), mapped(t, `each w in value by ", " { emit w, ""; }`, "", strings.Join(list, ", ")), want)
		wantPairs(t, "for of "+strconv.Itoa(n), reduced(t, `for w in values { emit w, ""; }`, "", list), want)
	}
	wantPairs(t, "only separators", mapped(t, `each w in value by "," { emit w, "-"; }`, "", strings.Repeat(",", 999)), slices.Repeat(pairs("", "-"), 256))
	wantPairs(t, "one inside another", mapped(t, `each a in value by "," { each b in value by "," { if and(eq(a, "9"), eq(b, "8")) { emit a, b; } } } emit "end", "";`, "", strings.Repeat("x,", 255)+"9,8,7"),
		pairs("end", ""))
	wantPairs(t, "one inside another", mapped(t, `each a in value by "," { each b in value by "," { if and(eq(a, "9"), eq(b, "8")) { emit a, b; } } } emit "end", "";`, "", strings.Repeat("x,", 254)+"8,9,7"),
		pairs("9", "8", "end", ""))
}

// P17.1: for goes over the values of a list.
func TestFor(t *testing.T) {
	values := []string{"b", "", "a", strings.Repeat("x", 5000)}
	want := pairs("b", "k", "", "k", "a", "k", values[3], "k")
	wantPairs(t, "for", reduced(t, `for v in values { emit v, key; }`, "k", values), want)
	wantPairs(t, "for over a let", reduced(t, `let l = values; for v in l { emit v, key; }`, "k", values), want)
	wantPairs(t, "for over none", reduced(t, `for v in values { emit v, key; } emit key, "end";`, "k", nil), pairs("k", "end"))
	wantPairs(t, "for in for", reduced(t, `for v in values { for w in values { emit v, w; } }`, "k", []string{"a", "b"}),
		pairs("a", "a", "a", "b", "b", "a", "b", "b"))
}

// P17.1: each of the blocks is its own call's; Combine without a combine gives back any number of values.
func TestCombine(t *testing.T) {
	p := parsed(t, `map { emit "m", value; } combine { emit key, text(count(values)); } reduce { emit "r", first(values); }`)
	wantPairs(t, "Map", eval.Map(p, "k", "v"), pairs("m", "v"))
	wantPairs(t, "Combine", eval.Combine(p, "k", []string{"a", "b"}), pairs("k", "2"))
	wantPairs(t, "Combine of none", eval.Combine(p, "k", nil), pairs("k", "0"))
	wantPairs(t, "Reduce", eval.Reduce(p, "k", []string{"a", "b"}), pairs("r", "a"))
	wantPairs(t, "an empty combine", eval.Combine(parsed(t, `map { } combine { } reduce { }`), "k", []string{"a", "b"}), nil)

	p = parsed(t, counting)
	wantPairs(t, "no combine", eval.Combine(p, "k", []string{"b", "", "a", "b"}), pairs("k", "b", "k", "", "k", "a", "k", "b"))
	wantPairs(t, "no combine", eval.Combine(p, "", []string{"1"}), pairs("", "1"))
	wantPairs(t, "no combine and no values", eval.Combine(p, "k", nil), nil)
	many, want := letters(5000)
	for i, v := range many {
		want[i] = api.Pair{Key: "k", Value: v}
	}
	wantPairs(t, "no combine", eval.Combine(p, "k", many), want)
	long := strings.Repeat("x", 9000)
	wantPairs(t, "no combine", eval.Combine(p, long, []string{long + "y"}), pairs(long, long+"y"))
}

func wantPart(t *testing.T, p *lang.Program, key string, parts, want int) {
	t.Helper()
	if got := eval.Part(p, key, parts); got != want {
		t.Errorf("Part(%s, %d): %d, not %d", clip(key), parts, got, want)
	}
}

// P17.2: without a part expression the checksum of the key tells the part.
func TestPartBySum(t *testing.T) {
	p := parsed(t, counting)
	for _, key := range []string{"", "a", "b", "key", "\xff\x00", "123456789", strings.Repeat("x", 9000)} {
		for _, parts := range []int{1, 2, 3, 64, 1000, 1 << 31, 1<<32 - 1, 1 << 32, 1<<63 - 1} {
			wantPart(t, p, key, parts, int(uint64(crc.Sum(key))%uint64(parts)))
		}
		for _, parts := range []int{0, -1, -5, -1 << 63} {
			wantPart(t, p, key, parts, 0)
		}
	}
	wantPart(t, p, "123456789", 10000, 0xE3069283%10000) // CRC-32C of these
}

// P17.2: with a part expression its number tells the part, whatever its sign.
func TestPartByExpression(t *testing.T) {
	for _, c := range []struct {
		expr        string
		key         string
		parts, want int
	}{
		{"num(key)", "0", 3, 0},
		{"num(key)", "1", 3, 1},
		{"num(key)", "2", 3, 2},
		{"num(key)", "3", 3, 0},
		{"num(key)", "-1", 3, 2},
		{"num(key)", "-3", 3, 0},
		{"num(key)", "-4", 3, 2},
		{"num(key)", "-5", 1, 0},
		{"num(key)", "x", 3, 0},
		{"num(key)", "-1", 1<<63 - 1, 1<<63 - 2},
		{"num(key)", "1", 1<<63 - 1, 1},
		{lowest, "", 1<<63 - 1, 1<<63 - 1 - most},
		{highest, "", 1 << 41, most},
		{lowest, "", 1 << 41, most},
		{"len(key)", "abcd", 3, 1},
		{"7", "abcd", 4, 3},
		{"parts", "", 3, 0},
		{"sub(parts, 1)", "", 3, 2},
		{"add(parts, 1)", "", 3, 1},
		{"sub(0, add(parts, 1))", "", 3, 2},
		{"parts", "", most, 0},
		{"sub(parts, 1)", "", most + 1, most - 1},
		{"parts", "", most + 1, most},
		{"parts", "", 1<<63 - 1, most},
		{"add(parts, 1)", "", 1<<63 - 1, most},
		{"sub(0, parts)", "", 1<<63 - 1, 1<<63 - 1 - most},
		{`mul(less(key, "m"), sub(parts, 1))`, "a", 5, 4},
		{`mul(less(key, "m"), sub(parts, 1))`, "z", 5, 0},
		{"num(key)", "5", 0, 0},
		{"num(key)", "5", -2, 0},
		{"parts", "", -1 << 63, 0},
	} {
		p := parsed(t, "map { } reduce { } part "+c.expr+";")
		wantPart(t, p, c.key, c.parts, c.want)
	}
}

// P17.3: of a nil program, nothing.
func TestNil(t *testing.T) {
	values := []string{"a", "b"}
	wantPairs(t, "Map", eval.Map(nil, "k", "v"), nil)
	wantPairs(t, "Combine", eval.Combine(nil, "k", values), nil)
	wantPairs(t, "Reduce", eval.Reduce(nil, "k", values), nil)
	wantPart(t, nil, "k", 7, 0)
	wantPart(t, nil, "k", 0, 0)
}

// apart: what is answered lies elsewhere than these texts.
func apart(t *testing.T, what string, answer []api.Pair, texts ...string) {
	t.Helper()
	for _, p := range answer {
		for _, answered := range []string{p.Key, p.Value} {
			for _, text := range texts {
				at, start := uintptr(unsafe.Pointer(unsafe.StringData(answered))), uintptr(unsafe.Pointer(unsafe.StringData(text)))
				if answered != "" && at >= start && at < start+uintptr(len(text)) {
					t.Errorf("%s: %q is a piece of what was handed in", what, clip(answered))
				}
			}
		}
	}
}

// P17.3: values stay as they are; an answer shares nothing with what was handed in, nor with another one.
func TestNothingIsShared(t *testing.T) {
	source := `map { emit key, value; each w in value by "," { emit w, "constant"; } emit cut(value, 1, 3), cat("", key); } combine { for v in values { emit key, v; } emit first(values), last(values); emit join(values, ""), ""; } reduce { for v in values { emit v, key; } }`
	p := parsed(t, source)
	printed := lang.Print(p)
	key, value := strings.Clone("keykey"), strings.Clone("value,value")
	emitted := eval.Map(p, key, value)
	apart(t, "Map", emitted, key, value, p.Map[1].Body[0].B.Text)
	room := []string{strings.Clone("first"), strings.Clone("second"), "third"}
	values, had := room[:2:3], slices.Clone(room)
	handed := append([]string{key}, values...)
	apart(t, "Combine", eval.Combine(p, key, values), handed...)
	apart(t, "Combine of one", eval.Combine(p, key, values[:1]), handed...)
	apart(t, "Reduce", eval.Reduce(p, key, values), handed...)
	plain := parsed(t, counting)
	apart(t, "Combine without one", eval.Combine(plain, key, values), handed...)
	if !slices.Equal(room, had) {
		t.Errorf("the values are %q now", room)
	}

	again := eval.Map(p, key, value)
	clear(emitted)
	wantPairs(t, "another answer", again, eval.Map(p, key, value))
	combined := eval.Combine(plain, key, values)
	again = eval.Combine(plain, key, values)
	clear(combined)
	wantPairs(t, "another answer", again, pairs("keykey", "first", "keykey", "second"))
	if lang.Print(p) != printed {
		t.Error("the program was changed")
	}
}
