package console_test

import (
	"fmt"
	"math"
	"math/rand"
	"reflect"
	"strings"
	"testing"

	"mahout/api"
	"mahout/console"
	"mahout/world"
)

const nothingShown = "nodes 0\nreplicas 0\nblock 0\nroom 0\nrounds 0\n"

func wantShown(t *testing.T, s world.Script, want string) {
	t.Helper()
	before := fmt.Sprintf("%#v", s)
	if text := console.Show(s); text != want {
		t.Errorf("Show(%v): %q, not %q", s, text, want)
	}
	if fmt.Sprintf("%#v", s) != before {
		t.Errorf("Show changed %s", before)
	}
}

// P26.2: settings, choices and clients.
func TestShowSettings(t *testing.T) {
	wantShown(t, world.Script{}, nothingShown)
	wantShown(t, world.Script{Choices: []int{}, Acts: [][]world.Act{}}, nothingShown)
	wantShown(t, world.Script{Nodes: 1, Replicas: 2, Block: 3, Room: 4, Rounds: 5, Flips: true, Choices: []int{6, -7, 0}, Acts: [][]world.Act{nil, {}}},
		"nodes 1\nreplicas 2\nblock 3\nroom 4\nrounds 5\nflips\nchoose 6 -7 0\nclient\nclient\n")
	wantShown(t, world.Script{Nodes: math.MinInt, Replicas: math.MaxInt, Block: -1, Room: 1000000000, Rounds: -1000000000, Choices: []int{math.MinInt, math.MaxInt}},
		"nodes -9223372036854775808\nreplicas 9223372036854775807\nblock -1\nroom 1000000000\nrounds -1000000000\nchoose -9223372036854775808 9223372036854775807\n")
	wantShown(t, world.Script{Acts: make([][]world.Act, 6)}, nothingShown+strings.Repeat("client\n", 6))
}

// P26.2: each Kind of an Act; of its fields those of the table alone.
func TestShowActs(t *testing.T) {
	job := world.Job{Program: "map { }", Output: "/o", Inputs: []string{"/i", "/j k"}, Parts: 1, Split: -2, Spill: 3}
	for kind, want := range map[int]string{
		world.Mkdir:  `mkdir "/p"`,
		world.Create: `create "/p"`,
		world.Append: `append "/p" "d d"`,
		world.Close:  `close "/p"`,
		world.Delete: `delete "/p"`,
		world.Rename: `rename "/p" "/t"`,
		world.Limit:  `limit "/p" -5`,
		world.Read:   `read "/p"`,
		world.List:   `list "/p"`,
		world.Submit: `submit "/p" "/o" 1 -2 3 "map { }" "/i" "/j k"`,
		world.Status: `status "/p"`,
	} {
		a := world.Act{Kind: kind, Path: "/p", To: "/t", Data: "d d", Quota: -5, Job: job}
		wantShown(t, world.Script{Acts: [][]world.Act{{a}}}, nothingShown+"client\n"+want+"\n")
		wantShown(t, world.Script{Acts: [][]world.Act{nil, {a, a}}}, nothingShown+"client\nclient\n"+want+"\n"+want+"\n")
	}
	wantShown(t, world.Script{Acts: [][]world.Act{{{Kind: world.Submit}, {Kind: world.Read}, {Kind: world.Limit}}}},
		nothingShown+"client\nsubmit \"\" \"\" 0 0 0 \"\"\nread \"\"\nlimit \"\" 0\n")
}

// P26.2: other Kinds are left out, their clients aren't.
func TestShowOtherKinds(t *testing.T) {
	for _, kind := range []int{0, -1, 12, 13, math.MinInt, math.MaxInt, 1 << 32, 1<<32 + 1} {
		other := world.Act{Kind: kind, Path: "/p"}
		wantShown(t, world.Script{Acts: [][]world.Act{{other}, {other, {Kind: world.Read, Path: "a"}, other}}}, nothingShown+"client\nclient\nread \"a\"\n")
	}
}

// P26.2: every byte in a quoted text.
func TestShowBytes(t *testing.T) {
	for b := range 256 {
		text := string([]byte{'a', byte(b), 'b'})
		want := modelQuoted(text)
		if (b < 0x20 || b > 0x7E) && want != fmt.Sprintf(`"a\x%02Xb"`, b) {
			t.Fatalf("the model: %q", want)
		}
		a := world.Act{Kind: world.Submit, Path: text, Job: world.Job{Program: text, Output: text, Inputs: []string{text}}}
		wantShown(t, world.Script{Acts: [][]world.Act{{a, {Kind: world.Append, Path: text, Data: text}, {Kind: world.Rename, Path: text, To: text}}}},
			nothingShown+"client\n"+strings.ReplaceAll("submit Q Q 0 0 0 Q Q\nappend Q Q\nrename Q Q\n", "Q", want))
	}
	wantShown(t, world.Script{Acts: [][]world.Act{{{Kind: world.Read, Path: "\"\\\x1f\x20\x7e\x7f\x80é\n"}}}}, nothingShown+`client
read "\"\\\x1F ~\x7F\x80\xC3\xA9\x0A"
`)
}

// P26.3: any scripts come back, and their texts have the form of P26.2.
func TestAnyScripts(t *testing.T) {
	r := rand.New(rand.NewSource(3))
	for range 10000 {
		s := anyScript(r)
		text := console.Show(s)
		if len(text) > api.MaxText {
			t.Fatal("too long")
		}
		if again, fault := console.Parse(text); fault != (console.Fault{}) || !same(again, s) {
			t.Fatalf("%q: %v, %v, not %v", text, again, fault, s)
		}
		if again, fault := modelParse(text); fault != (console.Fault{}) || !same(again, s) {
			t.Fatalf("%q: the second reader: %v, %v, not %v", text, again, fault, s)
		}
		for line := range strings.Lines(text) {
			if !shownForm.MatchString(strings.TrimSuffix(line, "\n")) || !strings.HasSuffix(line, "\n") {
				t.Fatalf("the line %q", line)
			}
		}
	}
}

// P26.3: texts of any length up to the greatest come back; a longer one doesn't.
func TestLongScripts(t *testing.T) {
	around := len(nothingShown + "client\nread \"\"\n")
	for more, fault := range map[int]console.Fault{0: {}, 1: {Code: api.ErrLong}} {
		s := world.Script{Acts: [][]world.Act{{{Kind: world.Read, Path: strings.Repeat("x", api.MaxText-around+more)}}}}
		again, got := console.Parse(console.Show(s))
		if got != fault || same(again, s) != (fault == console.Fault{}) {
			t.Errorf("%d more: %v", more, got)
		}
	}
	many := world.Script{Choices: make([]int, 500000)}
	for i := range many.Choices {
		many.Choices[i] = i % 10
	}
	if again, fault := console.Parse(console.Show(many)); fault != (console.Fault{}) || !reflect.DeepEqual(again, many) {
		t.Errorf("many choices: %v", fault)
	}
}
