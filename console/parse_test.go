package console_test

import (
	"math/rand"
	"strings"
	"testing"

	"mahout/api"
	"mahout/console"
	"mahout/world"
)

// The chapter's example.
func TestExample(t *testing.T) {
	wantScript(t, "nodes 1\nrounds 30\nclient\nmkdir /a\n", world.Script{Nodes: 1, Rounds: 30, Acts: [][]world.Act{{{Kind: world.Mkdir, Path: "/a"}}}})
	wantFault(t, "mkdir /a\n", api.ErrNone, 1)
	wantFault(t, "nodes x", api.ErrArg, 1)
	wantFault(t, "nodes 1 \"", api.ErrToken, 1)
}

// P26.1: what each line sets.
func TestLines(t *testing.T) {
	for text, want := range map[string]world.Script{
		"":                                 {},
		"nodes 3":                          {Nodes: 3},
		"replicas 2":                       {Replicas: 2},
		"block 64":                         {Block: 64},
		"room 5":                           {Room: 5},
		"rounds 7":                         {Rounds: 7},
		"flips":                            {Flips: true},
		"flips\nflips":                     {Flips: true},
		"nodes 3\nnodes -4":                {Nodes: -4},
		"rounds 3\nblock 1\nrounds 0":      {Block: 1},
		"choose 1":                         {Choices: []int{1}},
		"choose 1 -2\nflips\nchoose 0 3 4": {Flips: true, Choices: []int{1, -2, 0, 3, 4}},
		"client":                           {Acts: [][]world.Act{nil}},
		"client\nclient\n":                 {Acts: [][]world.Act{nil, nil}},
	} {
		wantScript(t, text, want)
	}
}

// P26.1: what each line sets that is an Act.
func TestActs(t *testing.T) {
	text := `client
mkdir /a
create "/a b"
append /f "x y"
close /f
delete /f
client
rename /f /g
limit / -3
read /f
list /
submit w /out 1 2 3 "map { } reduce { }" /f "/g h"
submit v /o 4 5 6 map
status w
append client client
`
	wantScript(t, text, world.Script{Acts: [][]world.Act{
		{
			{Kind: world.Mkdir, Path: "/a"},
			{Kind: world.Create, Path: "/a b"},
			{Kind: world.Append, Path: "/f", Data: "x y"},
			{Kind: world.Close, Path: "/f"},
			{Kind: world.Delete, Path: "/f"},
		},
		{
			{Kind: world.Rename, Path: "/f", To: "/g"},
			{Kind: world.Limit, Path: "/", Quota: -3},
			{Kind: world.Read, Path: "/f"},
			{Kind: world.List, Path: "/"},
			{Kind: world.Submit, Path: "w", Job: world.Job{Output: "/out", Parts: 1, Split: 2, Spill: 3, Program: "map { } reduce { }", Inputs: []string{"/f", "/g h"}}},
			{Kind: world.Submit, Path: "v", Job: world.Job{Output: "/o", Parts: 4, Split: 5, Spill: 6, Program: "map"}},
			{Kind: world.Status, Path: "w"},
			{Kind: world.Append, Path: "client", Data: "client"},
		},
	}})
}

// P26.1: an Act is the last client's; settings may stand anywhere; there may be more clients than a world has.
func TestClients(t *testing.T) {
	read := func(path string) world.Act { return world.Act{Kind: world.Read, Path: path} }
	wantScript(t, "client\nread a\nnodes 2\nread b\nclient\nclient\nflips\nread c\nclient\nclient\nread d", world.Script{
		Nodes: 2, Flips: true,
		Acts: [][]world.Act{{read("a"), read("b")}, nil, {read("c")}, nil, {read("d")}},
	})
}

// P26.1: lines that mean nothing, and how lines are cut.
func TestLinesWithoutMeaning(t *testing.T) {
	for _, text := range []string{"", "\n", "\n\n\n", " ", "   \n  ", "#", "#\n", "# nodes 3", "#\"", "#nodes 3\n#\\x\x00\xff\n\n"} {
		wantScript(t, text, world.Script{})
	}
	for _, text := range []string{"nodes 3", "nodes 3\n", "  nodes   3  ", "\n\nnodes 3\n\n", "#nodes 4\nnodes 3\n# nodes 5"} {
		wantScript(t, text, world.Script{Nodes: 3})
	}
	for text, line := range map[string]int{"x": 1, "\nx": 2, "\n \n#\nx": 4, "nodes 3\nx\n": 2, "x\n\n": 1, " #": 1, "\n #\n": 2, "nodes 3\r\n": 1, "\t\n": 1} {
		code := api.ErrCommand
		if strings.HasPrefix(text, "nodes 3\r") {
			code = api.ErrArg
		}
		wantFault(t, text, code, line)
	}
}

// P26.1: the first line that is wrong is the fault, whatever stands behind it.
func TestFirstLine(t *testing.T) {
	const right = "nodes 3\nclient\nread /f\n"
	wrong := map[string]api.Errno{"\"": api.ErrToken, "what": api.ErrCommand, "nodes": api.ErrArg}
	for first, code := range wrong {
		wantFault(t, first+"\n"+right, code, 1)
		wantFault(t, right+first, code, 4)
		for second := range wrong {
			wantFault(t, right+first+"\n"+second+"\n"+right, code, 4)
		}
	}
	wantFault(t, "nodes 3\nread /f\nclient\n\"\n", api.ErrNone, 2)
}

// P26.1: of the faults of one line the first that the chapter names.
func TestFaultsOfALine(t *testing.T) {
	for line, code := range map[string]api.Errno{
		"what \"":      api.ErrToken,
		"nodes x\"":    api.ErrToken,
		"mkdir \"":     api.ErrToken,
		"what":         api.ErrCommand,
		"what 1 2 3":   api.ErrCommand,
		"mkdir":        api.ErrArg,
		"mkdir a b":    api.ErrArg,
		"limit a b":    api.ErrArg,
		"mkdir a":      api.ErrNone,
		"\"mkdir\" a":  api.ErrCommand,
		"\"client\"":   api.ErrCommand,
		"\"\"":         api.ErrCommand,
		"\"#\"":        api.ErrCommand,
		"Nodes 3":      api.ErrCommand,
		"node 3":       api.ErrCommand,
		"nodess 3":     api.ErrCommand,
		"3 nodes":      api.ErrCommand,
		"nodes\t3":     api.ErrCommand,
		"submit a b 1": api.ErrArg,
	} {
		wantFault(t, line, code, 1)
	}
}

// P26.1: each word with as many fields as the table says, and no others; each number a number.
func TestCounts(t *testing.T) {
	for _, r := range rows {
		right := []string{r.word}
		for _, f := range r.fields {
			if f == "N" {
				f = "5"
			}
			right = append(right, f)
		}
		const ahead = "client\n"
		parsed(t, ahead+strings.Join(right, " "))
		for n := 1; n < len(right); n++ {
			wantFault(t, ahead+strings.Join(right[:n], " "), api.ErrArg, 2)
		}
		for n := 1; n <= 3; n++ {
			more := strings.Join(right, " ") + strings.Repeat(" 5", n)
			if r.more == "" {
				wantFault(t, ahead+more, api.ErrArg, 2)
			} else {
				parsed(t, ahead+more)
			}
		}
		for i, f := range r.fields {
			spoilt := append([]string(nil), right...)
			for _, other := range []string{"x", `"5"`, `""`, `"x y"`, "5x", "-", "0x5"} {
				spoilt[i+1] = other
				if f == "N" {
					wantFault(t, ahead+strings.Join(spoilt, " "), api.ErrArg, 2)
				} else {
					parsed(t, ahead+strings.Join(spoilt, " "))
				}
			}
		}
		if r.kind > 0 {
			wantFault(t, strings.Join(right, " "), api.ErrNone, 1)
		}
	}
	wantFault(t, "choose 1 2 x 3", api.ErrArg, 1)
	wantFault(t, `choose 1 2 "3"`, api.ErrArg, 1)
}

// P26.1: what is a number.
func TestNumbers(t *testing.T) {
	for text, n := range map[string]int{"0": 0, "1": 1, "-1": -1, "10": 10, "999999999": 999999999, "-999999999": -999999999, "100000000": 100000000, "-10": -10} {
		wantScript(t, "nodes "+text, world.Script{Nodes: n})
		wantScript(t, "choose 7 "+text+"\nclient\nlimit / "+text, world.Script{Choices: []int{7, n}, Acts: [][]world.Act{{{Kind: world.Limit, Path: "/", Quota: n}}}})
	}
	for _, text := range []string{
		"-", "-0", "00", "01", "-01", "007", "+1", "--1", "1-", "1000000000", "-1000000000", "0000000001", "9999999999", "18446744073709551617", "99999999999999999999999",
		"1.0", "1e3", "0x1", "1_0", "1,", "a", "1\t", "\t1", "1\r", "\xd9\xa1", "1\x00", "''",
	} {
		wantFault(t, "nodes "+text, api.ErrArg, 1)
		wantFault(t, "choose 7 "+text, api.ErrArg, 1)
		wantFault(t, "client\nlimit / "+text, api.ErrArg, 2)
	}
}

// P26.1: texts of the greatest length, and of one byte more.
func TestLongTexts(t *testing.T) {
	const most = api.MaxText
	wantScript(t, "nodes 3\n#"+strings.Repeat("x", most-9), world.Script{Nodes: 3})
	wantScript(t, strings.Repeat("\n", most-7)+"nodes 3", world.Script{Nodes: 3})
	wantScript(t, "client\nread "+strings.Repeat("x", most-12), world.Script{Acts: [][]world.Act{{{Kind: world.Read, Path: strings.Repeat("x", most-12)}}}})
	wantFault(t, strings.Repeat("\n", most-1)+"x", api.ErrCommand, most)
	wantFault(t, strings.Repeat("x", most), api.ErrCommand, 1)
	wantFault(t, strings.Repeat(`"`, most), api.ErrToken, 1)
	wantFault(t, strings.Repeat("\n", most+1), api.ErrLong, 0)
	wantFault(t, strings.Repeat("x", most+1), api.ErrLong, 0)
	wantFault(t, "nodes 3\n#"+strings.Repeat("x", most-8), api.ErrLong, 0)
	if s := parsed(t, strings.Repeat("client\n", most/7)); len(s.Acts) != most/7 {
		t.Errorf("%d clients", len(s.Acts))
	}
}

// Lists of one answer share no memory, nor do those of two answers.
func TestNewMemory(t *testing.T) {
	const text = "choose 1 2 3\nclient\nread a\nread b\nread c\nclient\nread d\nsubmit w o 1 2 3 g i j k\nsubmit w o 1 2 3 g l\nclient"
	s, untouched := parsed(t, text), parsed(t, text)
	spoil := func(s world.Script) {
		_ = append(s.Choices, 9)
		for _, acts := range s.Acts {
			for _, a := range acts {
				_ = append(a.Job.Inputs, "z")
			}
			_ = append(acts, world.Act{Kind: 99})
		}
		_ = append(s.Acts, []world.Act{{Kind: 98}})
	}
	spoil(s)
	if !same(s, untouched) {
		t.Errorf("%v, not %v", s, untouched)
	}
	for i := range s.Choices {
		s.Choices[i] = 9
	}
	for _, acts := range s.Acts {
		for i := range acts {
			acts[i] = world.Act{}
		}
	}
	wantScript(t, text, untouched)
	if again, _ := modelParse(text); !same(untouched, again) {
		t.Errorf("%v, not %v", untouched, again)
	}
}

// anyLine is a line that is right, or nearly so.
func anyLine(r *rand.Rand) string {
	row := rows[r.Intn(len(rows))]
	fields := append([]string{row.word}, row.fields...)
	for range r.Intn(3) {
		fields = append(fields, row.more)
	}
	for i := 1; i < len(fields); i++ {
		switch {
		case fields[i] == "N":
			fields[i] = []string{"0", "1", "-1", "12", "999999999", "-0", "1000000000", "x"}[r.Intn(4+r.Intn(5))]
		case r.Intn(2) == 0:
			fields[i] = modelQuoted(anyText(r))
		default:
			fields[i] = []string{"a", "/a", "nodes", "\\", "\x80", "#", "1", "\t"}[r.Intn(8)]
		}
	}
	line := strings.Join(fields, []string{" ", " ", " ", "  "}[r.Intn(4)])
	for r.Intn(8) == 0 && line != "" { // a byte is left out, or one more put in
		at, end := r.Intn(len(line)), r.Intn(2)
		line = line[:at] + []string{"", " ", "\"", "\\", "#", "x", "\n", "\xff"}[r.Intn(8)] + line[min(at+end, len(line)):]
	}
	return line
}

// P26.1: any texts, held against a second reader.
func TestAnyTexts(t *testing.T) {
	codes := map[api.Errno]int{}
	r := rand.New(rand.NewSource(26))
	for range 40000 {
		var lines []string
		if r.Intn(4) > 0 {
			lines = append(lines, "client")
		}
		for range r.Intn(5) {
			lines = append(lines, anyLine(r))
		}
		text := strings.Join(lines, "\n") + strings.Repeat("\n", r.Intn(2))
		want, fault := modelParse(text)
		s, got := console.Parse(text)
		if got != fault || !same(s, want) {
			t.Fatalf("Parse(%q): %v %v, not %v %v", text, s, got, want, fault)
		}
		codes[got.Code]++
	}
	for _, code := range []api.Errno{api.OK, api.ErrToken, api.ErrCommand, api.ErrArg, api.ErrNone} {
		if codes[code] < 100 {
			t.Errorf("the code %d came but %d times", code, codes[code])
		}
	}
}

// P1: any bytes.
func TestAnyBytes(t *testing.T) {
	const meant = "nodes clientread 1\"\\x4\n\n#  \xff"
	r := rand.New(rand.NewSource(1))
	for range 40000 {
		text := make([]byte, r.Intn(30))
		for i := range text {
			text[i] = meant[r.Intn(len(meant))]
			if r.Intn(20) == 0 {
				text[i] = byte(r.Intn(256))
			}
		}
		want, fault := modelParse(string(text))
		if s, got := console.Parse(string(text)); got != fault || !same(s, want) {
			t.Fatalf("Parse(%q): %v %v, not %v %v", text, s, got, want, fault)
		}
	}
}
