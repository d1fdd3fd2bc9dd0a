package lang_test

import (
	"reflect"
	"strconv"
	"strings"
	"testing"

	"mahout/api"
	"mahout/lang"
)

// The chapter's examples.
func TestExamples(t *testing.T) {
	takes(t, `map { emit value, "1"; } reduce { emit key, text(count(values)); }`)
	wantFault(t, `map { emit x, key; } reduce { }`, api.ErrName, 11)
	wantFault(t, `map { emit 1, key; } reduce { }`, api.ErrType, 11)
	wantFault(t, `map { }`, api.ErrSyntax, 7)
	wantFault(t, `map { emit len(key, key), key; } reduce { }`, api.ErrSyntax, 18)
}

// The programs of the other chapters.
func TestOtherExamples(t *testing.T) {
	takes(t, `map { each w in value by " " { emit w, "1"; } } reduce { emit key, text(sum(values)); }`)
	wantFault(t, `map {`, api.ErrSyntax, 5)
}

func wantProgram(t *testing.T, text string, want lang.Program) {
	t.Helper()
	if got := parsed(t, text); !reflect.DeepEqual(*got, want) {
		t.Errorf("Parse(%q): %v, not %v", text, *got, want)
	}
}

func num(at, n int) lang.Expr {
	return lang.Expr{Op: "number", At: at, Num: n}
}

func str(at int, s string) lang.Expr {
	return lang.Expr{Op: "string", At: at, Text: s}
}

func variable(at int, name string) lang.Expr {
	return lang.Expr{Op: "var", At: at, Text: name}
}

func call(at int, name string, args ...lang.Expr) lang.Expr {
	return lang.Expr{Op: name, At: at, Args: args}
}

// Types: what each part of a program is made of.
func TestProgram(t *testing.T) {
	wantProgram(t, `map{}reduce{}`, lang.Program{})
	wantProgram(t, `map{}combine{}reduce{}part 7;`, lang.Program{Combines: true, Parts: true, Part: num(27, 7)})
	wantProgram(t, `map{emit key,value;}combine{emit key,"a";}reduce{emit "b",key;}part parts;`, lang.Program{
		Map:      []lang.Stmt{{Op: "emit", A: variable(9, "key"), B: variable(13, "value")}},
		Combine:  []lang.Stmt{{Op: "emit", A: variable(33, "key"), B: str(37, "a")}},
		Reduce:   []lang.Stmt{{Op: "emit", A: str(54, "b"), B: variable(58, "key")}},
		Combines: true,
		Parts:    true,
		Part:     variable(68, "parts"),
	})
}

// Types: statements. Fields that aren't named are zero.
func TestStatements(t *testing.T) {
	one := func(text string, s ...lang.Stmt) {
		t.Helper()
		wantProgram(t, "map { } reduce { "+text+"}", lang.Program{Reduce: s})
	}
	at := len("map { } reduce { ")
	emit := func(at int) lang.Stmt { // of 'emit"",key;'
		return lang.Stmt{Op: "emit", A: str(at+4, ""), B: variable(at+7, "key")}
	}
	one(`emit "x" , "y" ; `, lang.Stmt{Op: "emit", A: str(at+5, "x"), B: str(at+11, "y")})
	one(`let a=1;let b=values;let c=key;`,
		lang.Stmt{Op: "let", Name: "a", A: num(at+6, 1)},
		lang.Stmt{Op: "let", Name: "b", A: variable(at+14, "values")},
		lang.Stmt{Op: "let", Name: "c", A: variable(at+27, "key")})
	one(`if 0{}`, lang.Stmt{Op: "if", A: num(at+3, 0)})
	one(`if 0{}else{}`, lang.Stmt{Op: "if", A: num(at+3, 0)})
	one(`if 1{emit"",key;}else{emit"",key;emit"",key;}emit"",key;`,
		lang.Stmt{Op: "if", A: num(at+3, 1), Body: []lang.Stmt{emit(at + 5)}, Else: []lang.Stmt{emit(at + 22), emit(at + 33)}},
		emit(at+45))
	one(`each w in key by ","{emit"",key;}`, lang.Stmt{Op: "each", Name: "w", A: variable(at+10, "key"), B: str(at+17, ","), Body: []lang.Stmt{emit(at + 21)}})
	one(`for w in values{emit"",key;}`, lang.Stmt{Op: "for", Name: "w", A: variable(at+9, "values"), Body: []lang.Stmt{emit(at + 16)}})
}

// Types: expressions. A call's place is that of its name.
func TestExpressions(t *testing.T) {
	one := func(text string, e lang.Expr) {
		t.Helper()
		wantProgram(t, "map{}reduce{let x="+text+";}", lang.Program{Reduce: []lang.Stmt{{Op: "let", Name: "x", A: e}}})
	}
	const at = len("map{}reduce{let x=")
	one("0", num(at, 0))
	one(" 999999999", num(at+1, 999999999))
	one(`"a\"\\\n\tb"`, str(at, "a\"\\\n\tb"))
	one(`""`, str(at, ""))
	one(`"number"`, str(at, "number"))
	one("key", variable(at, "key"))
	one("not(1)", call(at, "not", num(at+4, 1)))
	one("cut ( key,\n2, 3)", call(at, "cut", variable(at+6, "key"), num(at+11, 2), num(at+14, 3)))
	one(`join(values,cat(first(values),"-"))`, call(at, "join", variable(at+5, "values"), call(at+12, "cat", call(at+16, "first", variable(at+22, "values")), str(at+30, "-"))))
}

// Tokens: blanks mean nothing, and may be left out wherever tokens are told apart without them.
func TestBlanks(t *testing.T) {
	for _, blank := range []string{" ", "\t", "\n", "\r", "\r\n\t  "} {
		text := strings.Join(strings.Split("map|{|let|x|=|len|(|key|)|;|}|reduce|{|}|", "|"), blank)
		wantProgram(t, text, lang.Program{Map: []lang.Stmt{{Op: "let", Name: "x", A: call(strings.Index(text, "len"), "len", variable(strings.Index(text, "key"), "key"))}}})
		takes(t, blank+text)
	}
	takes(t, `map{emit"a","b";if 1{}else{}each w in"a"by"b"{}}reduce{for v in values{}}part 1;`)
	refuses(t, api.ErrSyntax, "@", " \n@", "@mapx{}reduce{}", "@map1{}reduce{}", "map{}reduce{}part 1@a;", `map{let a=1@"b";}reduce{}`, "map{@let1=1;}reduce{}")
	refuses(t, api.ErrName, "map{let a=@b1;}reduce{}", "map{let a=@valu e;}reduce{}")
}

// Tokens: names of letters and digits, also those of functions; reserved words are none.
func TestNames(t *testing.T) {
	for _, name := range []string{"a", "Z", "z9", "A0b1C2", "Map", "MAP", "maps", "in1", "values", "parts", "len", "text", "number", "string", "var", "map1", "Key", strings.Repeat("n", 1000)} {
		takes(t, inMap("let "+name+" = 1; if "+name+" { }"), inMap("each "+name+` in value by "" { emit `+name+", "+name+"; }"), inReduce("for "+strings.ReplaceAll(name, "values", "v")+" in values { }"))
	}
	for word := range strings.FieldsSeq(reserved) {
		refuses(t, api.ErrSyntax,
			inMap("let @"+word+" = 1;"), inMap("each @"+word+` in value by "" { }`), inReduce("for @"+word+" in values { }"),
			inMap("if @"+word+" { }"), inMap("if @"+word+"(key) { }"), "map { } reduce { } part @"+word+";")
	}
}

// A function's name is a variable's too, where no ( follows.
func TestFunctionsAsVariables(t *testing.T) {
	for name := range functions {
		takes(t, inMap("let "+name+" = value; emit "+name+", cat("+name+", upper ("+name+"));"))
		refuses(t, api.ErrName, inMap("emit @"+name+", key;"), inMap("emit key, @"+name+";"), inMap("let x = @"+name+"1(key);"))
	}
	refuses(t, api.ErrSyntax, inMap("let len@(key) = 1;"), inMap("let len@;"))
}

// P16.1: in map and the others other names are there at the beginning, of their kinds.
func TestFirstVariables(t *testing.T) {
	takes(t,
		"map { emit key, value; let values = 1; let parts = 1; } combine { emit key, first(values); let value = 1; let parts = 1; } reduce { emit last(values), key; let value = 1; let parts = 1; } part len(key);",
		"map { let x = 1; } combine { let x = 1; } reduce { let x = 1; } part parts;")
	refuses(t, api.ErrName,
		"map { for v in @values { } } reduce { }", "map { if @parts { } } reduce { }",
		"map { } combine { emit @value, key; } reduce { }", "map { } combine { if @parts { } } reduce { }",
		"map { } reduce { emit @value, key; }", "map { } reduce { if @parts { } }",
		"map { } reduce { } part len(@value);", "map { } reduce { } part sum(@values);",
		"map { let x = 1; } combine { if @x { } } reduce { }", "map { let x = 1; } combine { let x = 1; } reduce { if @x { } }", "map { } reduce { let x = 1; } part @x;",
		"map { let @key = 1; } reduce { }", "map { let @value = 1; } reduce { }",
		"map { } combine { let @key = 1; } reduce { }", "map { } combine { let @values = 1; } reduce { }",
		"map { } reduce { let @key = 1; }", "map { } reduce { let @values = 1; }")
	refuses(t, api.ErrType,
		"map { if @key { } } reduce { }", "map { if @value { } } reduce { }",
		"map { } combine { if @values { } } reduce { }", "map { } reduce { emit key, @values; }",
		"map { } reduce { } part @key;", "map { } reduce { } part len(@parts);", `map { } reduce { } part @"1";`, "map { } reduce { } part @upper(key);")
}

// P16.1: let binds from behind itself to the end of its block; a loop binds in its block.
func TestScopes(t *testing.T) {
	takes(t,
		inMap("let a = 1; let b = a; if a { let c = b; } if b { let c = key; emit c, c; }"),
		inMap("if 1 { let a = 1; } else { let a = key; emit a, a; }"),
		inMap(`each w in key by " " { let a = w; } each w in value by " " { let a = 1; if a { } } let w = 1; let a = w;`),
		inReduce("for v in values { emit v, v; } for v in values { } let v = values; for w in v { }"),
		inReduce("let l = values; let m = l; if sum(m) { emit first(l), join(m, key); }"),
		inMap(`each w in key by key { each v in w by w { if 1 { emit w, v; } } }`))
	refuses(t, api.ErrName,
		inMap("let a = @a;"), inMap("let a = add(1, @a);"), inMap("if @a { } let a = 1;"),
		inMap("if 1 { let a = 1; } if @a { }"), inMap("if 1 { let a = 1; } else { if @a { } }"),
		inMap(`each w in @w by "" { }`), inMap(`each w in "" by @w { }`), inMap(`each w in "" by "" { } emit @w, "";`), inMap(`each w in "" by "" { let a = 1; } if @a { }`),
		inReduce("for v in @v { }"), inReduce("for v in values { } emit @v, key;"))
	refuses(t, api.ErrName,
		inMap("let a = 1; let @a = 2;"), inMap("let a = 1; if a { let @a = 2; }"), inMap("let a = 1; if a { } else { let @a = 2; }"),
		inMap(`let a = 1; each @a in "" by "" { }`), inMap(`each w in "" by "" { let @w = 1; }`), inMap(`each w in "" by "" { each @w in "" by "" { } }`), inMap(`each @key in "" by "" { }`), inMap(`if 1 { if 1 { let @value = 1; } }`),
		inReduce("for @values in values { }"), inReduce("for v in values { for @v in values { } }"), inReduce("let a = 1; for @a in values { }"))
}

// P16.1: at each place any token but the right ones.
func TestSyntax(t *testing.T) {
	refuses(t, api.ErrSyntax,
		"@", "@{ }", "@reduce { }", `@"map" { } reduce { }`, "map @", "map @}", "map @reduce { }", "map { @", "map { } @", "map { } @map { }", "map { } @part 1;", "map { } @{ }",
		"map { } combine @", "map { } combine @reduce { }", "map { } combine { } @", "map { } combine { } @combine { } reduce { }", "map { } combine { } @part 1;",
		"map { } reduce @", "map { } reduce { @", "map { } reduce { } @reduce { }", "map { } reduce { } @combine { }", "map { } reduce { } @;", "map { } reduce { } @key", "map { } reduce { } @}",
		"map { } reduce { } part @", "map { } reduce { } part @;", "map { } reduce { } part 1@", "map { } reduce { } part 1 @, 1;", "map { } reduce { } part 1; @;", "map { } reduce { } part 1; @part 1;")
	refuses(t, api.ErrSyntax,
		inMap("@;"), inMap("@{ }"), inMap("@key"), inMap("@1"), inMap(`@"emit" key, key;`), inMap("@else { }"), inMap("@map"), inMap("@in"),
		inMap("emit @;"), inMap("emit @, key;"), inMap("emit key @;"), inMap("emit key @key;"), inMap("emit key, @;"), "map { emit key, key @}", inMap("emit key, key @, key;"), inMap("emit @(key), key;"), inMap("emit key, key; @;"),
		inMap("let @= 1;"), inMap("let @1 = 1;"), inMap(`let @"a" = 1;`), inMap("let a @1;"), inMap("let a = @;"), "map { let a = 1 @}", inMap("let a = 1 @, b = 2;"), inMap("let a = @= 1;"), inMap("let a = 1 @(1);"), inMap(`let a = "a" @(1);`), inMap("let a @by 1;"), inMap(`let a @"=" 1;`))
	refuses(t, api.ErrSyntax,
		inMap("if @{ }"), inMap("if 1 @;"), inMap("if 1 @else { }"), inMap("if 1 { } else @if 1 { }"), inMap("if 1 { } else @;"), inMap("if 1 { } else { } @else { }"), inMap("if @(1) { }"), "map { if 1 { @", "map { if 1 { } } @} reduce { }", inMap("if 1 { } @;"),
		inMap(`each @in "" by "" { }`), inMap(`each w @"" by "" { }`), inMap(`each w @by "" { }`), inMap(`each w in @by "" { }`), inMap(`each w in "" @{ }`), inMap(`each w in "" by @{ }`), inMap(`each w in "" by "" @;`), inMap(`each w in "" @"" { }`), inMap(`each w in "" @in "" { }`), inMap(`each w in "" by "" { } @else { }`), inMap(`each @"w" in "" by "" { }`),
		inReduce("for @in values { }"), inReduce("for v @values { }"), inReduce("for v in @{ }"), inReduce("for v in values @by { }"), inReduce("for v in values @;"), inReduce("for @7 in values { }"), inReduce("for v in values { } @else { }"))
}

// samples are expressions of the kinds.
var samples = map[string]string{"n": "1", "t": `"a"`, "l": "values"}

// argumentsOf are right ones for a function.
func argumentsOf(f signature) []string {
	var args []string
	for _, k := range f.takes {
		args = append(args, samples[k])
	}
	return args
}

// P16.1: the comma and the parenthesis are looked at by the table.
func TestCommasAndParentheses(t *testing.T) {
	for name, f := range functions {
		args := argumentsOf(f)
		for n := range args {
			ahead := "map { } reduce { let x = " + name + " ( " + strings.Join(args[:n+1], ", ")
			right, other := ",", ")"
			if n+1 == len(args) {
				right, other = ")", ","
				takes(t, ahead+"); }")
			}
			for _, wrong := range []string{other, ";", "1" + right, `""` + right, "key" + right, "{", "}", "=", "in", "map"} {
				refuses(t, api.ErrSyntax, ahead+" @", ahead+"@"+other, ahead+" @"+wrong, ahead+" @"+wrong+" 1); }")
			}
			if f.takes[n] != "l" {
				refuses(t, api.ErrSyntax, ahead+" @(1)")
			}
		}
		refuses(t, api.ErrSyntax, inReduce("let x = "+name+"(@);"), inReduce("let x = "+name+"(@,"+args[0]+");"), inReduce("let x = "+name+"(@("+args[0]+"));"), "map { } reduce { let x = "+name+"(@")
		if n := len(args) - 1; n > 0 {
			short := "let x = " + name + "(" + strings.Join(args[:n], ", ")
			refuses(t, api.ErrSyntax, inReduce(short+",@);"), inReduce(short+",@,"+args[n]+");"))
		}
	}
}

// wantKind: this expression is of this kind, and of no other.
func wantKind(t *testing.T, expr, kind string) {
	t.Helper()
	for k, context := range map[string][]string{
		"n": {"if @ { }", "let x = not(@);"},
		"t": {"emit @, key;", "emit key, @;", `each w in @ by "" { }`, `each w in "" by @ { }`, "let x = upper(@);"},
		"l": {"for v in @ { }", "let x = first(@);"},
	} {
		for _, c := range context {
			if k == kind {
				takes(t, inReduce(strings.Replace(c, "@", expr, 1)))
			} else {
				refuses(t, api.ErrType, inReduce(strings.Replace(c, "@", "@"+expr, 1)))
			}
		}
	}
}

// P16.1: the table of functions, by all kinds of arguments and wherever an expression may stand.
func TestKinds(t *testing.T) {
	for _, expr := range []string{"7", "0", "len(key)"} {
		wantKind(t, expr, "n")
	}
	for _, expr := range []string{`"a"`, `""`, "key", `"7"`, "text(7)"} {
		wantKind(t, expr, "t")
	}
	wantKind(t, "values", "l")
	for name, f := range functions {
		args := argumentsOf(f)
		wantKind(t, name+"("+strings.Join(args, ", ")+")", f.gives)
		for i, wanted := range f.takes {
			for k, sample := range samples {
				if k != wanted {
					wrong := append([]string{}, args...)
					wrong[i] = "@" + sample
					refuses(t, api.ErrType, inReduce("let x = "+name+"("+strings.Join(wrong, ", ")+");"))
				}
			}
		}
	}
	takes(t, "map { } reduce { } part 0;", "map { } reduce { } part eq(key, key);")
}

// P16.1: variables have the kind of what they are bound to.
func TestKindsOfVariables(t *testing.T) {
	for kind, value := range map[string]string{"n": "div(1, 2)", "t": `cat(key, "")`, "l": "values"} {
		for k, use := range map[string]string{"n": "if @a { }", "t": "emit @a, key;", "l": "for v in @a { }"} {
			text := "map { } reduce { let b = " + value + "; let a = b; " + use + " }"
			if k == kind {
				takes(t, strings.Replace(text, "@", "", 1))
			} else {
				refuses(t, api.ErrType, text)
			}
		}
	}
	refuses(t, api.ErrType, inMap(`each w in "" by "" { if @w { } }`), inReduce("for v in values { if @v { } }"), inReduce("for v in values { for w in @v { } }"))
}

// P16.1: functions that aren't in the table.
func TestUnknownFunctions(t *testing.T) {
	for _, name := range []string{"key", "values", "Add", "LEN", "length", "x", "number", "string", "var", "adds", "ad", "l", "n"} {
		refuses(t, api.ErrName, inReduce("let y = @"+name+"(1);"), inReduce("let y = @"+name+"("), inReduce("let y = @"+name+" \n(;"), inReduce("let y = upper(@"+name+"());"))
	}
	refuses(t, api.ErrName, inMap("let f = 1; let y = @f(1);"))
}

// blocksDeep are so many blocks inside one another, the map's one of them, with a @ at the last one's brace.
func blocksDeep(n int, opener string) string {
	return "map " + strings.Repeat("{ "+opener+" ", n-1) + "@{" + strings.Repeat(" }", n) + " reduce { }"
}

// P16.1: blocks inside one another.
func TestNestOfBlocks(t *testing.T) {
	for n := 1; n <= 8; n++ {
		takes(t, strings.Replace(blocksDeep(n, "if 1"), "@", "", 1))
	}
	for n := 9; n <= 12; n++ {
		deep := strings.Replace(blocksDeep(n, "if 1"), "@", "", 1)
		places := strings.Split(deep, "{")
		wantFault(t, deep, api.ErrNest, len(strings.Join(places[:9], "{")))
	}
	open := "map { if 1 { if 1 { if 1 { if 1 { if 1 { if 1 { if 1 { "
	takes(t, open+strings.Repeat("}", 8)+"reduce {}")
	refuses(t, api.ErrNest, open+"if 1 @{", open+`each w in "" by "" @{`, open+"} else { if 1 @{", strings.ReplaceAll(open, "map", "map { } reduce")+"for v in values @{", strings.ReplaceAll(open, "map", "map { } combine")+"if 1 @{")
	takes(t, open+"} else { } if 1 { } else { } } else { } }"+strings.Repeat("}", 5)+"reduce { if 1 { } }")
	refuses(t, api.ErrSyntax, open+"@{", open+"if @{", open+"if 1 @(", open+"@;", open+"if 1 @;")
	refuses(t, api.ErrType, open+"if @key {")
}

// P16.1: loops inside one another, also where other blocks lie between.
func TestNestOfLoops(t *testing.T) {
	each, loop := `each %w in "" by "" {`, "for %v in values {"
	named := func(s, name string) string { return strings.Replace(s, "%", name, 1) }
	for _, a := range []string{each, loop} {
		for _, b := range []string{each, loop} {
			two := "map { } reduce { " + named(a, "a") + " if 1 { " + named(b, "b")
			takes(t, two+" } "+named(b, "c")+" } } "+named(a, "d")+" } } "+named(b, "e")+" } }", two+" if 1 { if 1 { } } } } } }")
			for _, c := range []string{each, loop} {
				third := strings.Replace(named(c, "c"), "{", "@{", 1)
				refuses(t, api.ErrNest, two+third, two+" if 1 { } else { "+third, two+" } if 1 { "+named(a, "d")+strings.Replace(third, "%", "e", 1))
			}
		}
	}
	two := `map { each a in "" by "" { each b in a by a { `
	refuses(t, api.ErrName, two+`each @b in "" by "" {`, two+`each c in "" by @c {`)
	refuses(t, api.ErrType, two+`each c in "" by @1 {`)
	refuses(t, api.ErrSyntax, two+`each c in "" by "" @}`, two+`each c in "" @{`)
	refuses(t, api.ErrNest, two+`each c in "" by "" @{ ; ; ;`)
}

// P16.1: calls inside one another.
func TestNestOfCalls(t *testing.T) {
	deep := func(n int) string { return strings.Repeat("upper(", n) + "key" + strings.Repeat(")", n) }
	for n := 1; n <= 8; n++ {
		takes(t, inMap("emit "+deep(n)+", "+deep(n)+";"))
	}
	open := "map { emit " + strings.Repeat("upper(", 8)
	refuses(t, api.ErrNest, open+"upper@(key", open+"upper @(", open+"lower@()")
	refuses(t, api.ErrNest, open+"foo@(key") // it is met ahead of the name's fault, which waits for the parenthesis
	refuses(t, api.ErrNest, "map { let x = "+strings.Repeat("not(", 8)+"not@(")
	refuses(t, api.ErrName, open+"@foo)", "map { emit "+strings.Repeat("upper(", 7)+"@foo(")
	refuses(t, api.ErrSyntax, open+"@(", open+"@)")
	// Behind one another, or inside blocks, there may be any number.
	takes(t, inMap("emit cat("+deep(7)+", "+deep(7)+"), cat(cat(key, "+deep(6)+"), "+deep(7)+"); if len("+deep(7)+") { emit "+deep(8)+", key; }"))
	refuses(t, api.ErrNest, inMap("emit cat("+deep(7)+", "+strings.Repeat("upper(", 7)+"upper@(key)"))
}

// P16.1: the first fault that is met is told, by when it is met.
func TestFirstFault(t *testing.T) {
	refuses(t, api.ErrName, "map { emit @x }", "map { emit @x(", "map { let y = @x x", "map { emit @x, 1; } }", "map { let @key 1")
	refuses(t, api.ErrType, "map { emit @1 }", "map { emit @len(key) x", "map { if @key x", "map { emit len(@1 ;", "map { emit len(@not(1) x", `map { each w in @1 ;`, `map { each w in "" by @1 ;`, "map { } reduce { for v in @key ;", "map { } reduce { } part @key")
	refuses(t, api.ErrSyntax, "map { let y = 1 @x = z;", "map { let y @1 = z;", "map { emit key @key, 1;", "map { emit len(key@; x, 1;", "map { emit len(key@, x), 1;", "map { if not(1 @x) { }", "map { emit len(@), 1; }", "map { emit add(1@), 1; }")
	refuses(t, api.ErrType, "map { emit @add(1, 2), x; }", "map { emit cat(key, @add(1, 2)), x; }", "map { emit cat(@add(1, 2), x), x; }", "map { let y = add(1, @cat(key, key)); x }")
	refuses(t, api.ErrName, "map { emit add(1, @x), 1; }", "map { emit cat(key, @x), y; }", "map { let y = @x; let y = 1; } }")
}

// P16.1: too long a text, whatever stands in it.
func TestLong(t *testing.T) {
	fits := inMap("") + strings.Repeat(" ", api.MaxCode-len(inMap("")))
	takes(t, fits)
	for _, text := range []string{fits + " ", fits + "?", strings.Repeat("?", api.MaxCode+1), strings.Repeat("{", 3*api.MaxCode), strings.Repeat("x", 1<<20)} {
		wantFault(t, text, api.ErrLong, 0)
	}
	wantFault(t, strings.Repeat(" ", api.MaxCode), api.ErrSyntax, api.MaxCode)
	wantFault(t, strings.Repeat("?", api.MaxCode), api.ErrToken, 0)
	wantFault(t, strings.Repeat(" ", api.MaxCode-1)+"?", api.ErrToken, api.MaxCode-1)
	wantFault(t, fits[:api.MaxCode-1]+"x", api.ErrSyntax, api.MaxCode-1)
	long := `map { emit key, "` + strings.Repeat("a", api.MaxCode-len(`map { emit key, ""; } reduce { }`)) + `"; } reduce { }`
	if s := parsed(t, long).Map[0].B.Text; len(long) != api.MaxCode || s != strings.Repeat("a", len(s)) {
		t.Errorf("a long text: %q", s)
	}
	many := inMap(strings.Repeat("if 1{}", 600)) // of many statements all are there
	if p := parsed(t, many); len(p.Map) != 600 || p.Map[599].A.At != 6+6*599+3 {
		t.Errorf("many statements: %d", len(p.Map))
	}
	lets := ""
	for i := range 250 {
		lets += "let v" + strconv.Itoa(i) + "=1;"
	}
	takes(t, inMap(lets+"if v0{} if v249{}"))
	refuses(t, api.ErrName, inMap(lets+"let @v0=1;"), inMap(lets+"let @v249=1;"), inMap(lets+"if @v250{}"))
}
