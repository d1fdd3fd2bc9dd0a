package lang_test

import (
	"reflect"
	"strings"
	"testing"

	"mahout/api"
	"mahout/lang"
)

func wantPrint(t *testing.T, text, want string) {
	t.Helper()
	if got := lang.Print(parsed(t, text)); got != want {
		t.Errorf("Print of %q: %q, not %q", text, got, want)
	}
}

// P16.2: all tokens in order, with one blank between each two.
func TestPrint(t *testing.T) {
	wantPrint(t, "map{}reduce{}", "map { } reduce { }")
	wantPrint(t, "\n\nmap{}combine{}reduce{}part 0;\r\n\t", "map { } combine { } reduce { } part 0 ;")
	wantPrint(t, `map { emit value, "1"; } reduce { emit key, text(count(values)); }`,
		`map { emit value , "1" ; } reduce { emit key , text ( count ( values ) ) ; }`)
	wantPrint(t, `map{each w in value by" "{let x=cut(w,1,20);if eq(x,""){emit w,x;}else{emit x,w;}}}combine{for v in values{emit key,v;}}reduce{}part add(parts,len(key));`,
		`map { each w in value by " " { let x = cut ( w , 1 , 20 ) ; if eq ( x , "" ) { emit w , x ; } else { emit x , w ; } } } combine { for v in values { emit key , v ; } } reduce { } part add ( parts , len ( key ) ) ;`)
	for name, f := range functions {
		args := strings.NewReplacer("n", "7", "t", "key", "l", "values").Replace(strings.Join(f.takes, " , "))
		one := "map { } reduce { let x = " + name + " ( " + args + " ) ; }"
		wantPrint(t, one, one)
	}
}

// P16.2: an else with an empty block is left out, and no other empty block.
func TestPrintOfElse(t *testing.T) {
	wantPrint(t, inMap("if 1 { } else { }"), "map { if 1 { } } reduce { }")
	wantPrint(t, inMap("if 1 { if 0 { } else { } } else { if 2 { } else { } }"), "map { if 1 { if 0 { } } else { if 2 { } } } reduce { }")
	wantPrint(t, inMap("if 1 { } else { let a = 1; } if 2 { let a = 1; } else { }"), "map { if 1 { } else { let a = 1 ; } if 2 { let a = 1 ; } } reduce { }")
	wantPrint(t, inMap(`each w in "" by "" { }`), `map { each w in "" by "" { } } reduce { }`)
	wantPrint(t, inReduce("for v in values { }"), "map { } reduce { for v in values { } }")
}

// P16.2: texts with a stroke only where they need one.
func TestPrintOfTexts(t *testing.T) {
	all := ""
	for b := byte(0x20); b <= 0x7E; b++ {
		if b == '"' || b == '\\' {
			all += `\`
		}
		all += string(rune(b))
	}
	for _, written := range []string{"", all, `\n`, `\t`, `\\n`, `\\\\`, `\"`, `\n\n\t\"\\`, `  `, `'`, `map { }`} {
		one := `map { emit "` + written + `" , key ; } reduce { }`
		wantPrint(t, one, one)
	}
}

// P16.2: what is printed is a program that prints alike, though its places may be others.
func TestPrintAndParse(t *testing.T) {
	printed := lang.Print(parsed(t, "map{if 1{}else{}let a=len ( \"\\n\" );}reduce{}"))
	if again := lang.Print(parsed(t, printed)); again != printed {
		t.Errorf("Print: %q, and then %q", printed, again)
	}
	long := lang.Print(parsed(t, inMap(strings.Repeat("if 1{}", 600)))) // it grows
	if len(long) <= api.MaxCode || strings.Count(long, "if 1 { }") != 600 {
		t.Errorf("Print of a long program: %d bytes", len(long))
	}
	wantFault(t, long, api.ErrLong, 0)
}

// P16.2
func TestPrintOfNil(t *testing.T) {
	if got := lang.Print(nil); got != "" {
		t.Errorf("Print(nil): %q", got)
	}
}

// What is handed in isn't changed, and programs share nothing.
func TestNothingIsShared(t *testing.T) {
	text := inReduce("if add(1, 2) { let a = 1; } else { for v in values { emit cat(v, v), v; } }")
	one, two, fresh := parsed(t, text), parsed(t, text), parsed(t, text)
	if lang.Print(one); !reflect.DeepEqual(one, fresh) {
		t.Error("Print changed the program")
	}
	one.Reduce[0].A.Args[0].Num = 77
	one.Reduce[0].Body[0].Name = "z"
	one.Reduce[0].Else[0].Body[0].A.Args[1].Text = "z"
	if !reflect.DeepEqual(two, fresh) || !reflect.DeepEqual(parsed(t, text), fresh) {
		t.Error("two programs share memory")
	}
}
