package console_test

import (
	"fmt"
	"math"
	"math/rand"
	"strings"
	"testing"

	"mahout/api"
	"mahout/audit"
	"mahout/console"
	"mahout/tree"
	"mahout/world"
)

func wantReport(t *testing.T, o world.Outcome, want string) {
	t.Helper()
	before := fmt.Sprintf("%#v", o)
	if text := console.Report(o); text != want {
		t.Errorf("Report(%v): %q, not %q", o, text, want)
	}
	if fmt.Sprintf("%#v", o) != before {
		t.Errorf("Report changed %s", before)
	}
}

// wantCall: so a call is told.
func wantCall(t *testing.T, c audit.Call, want string) {
	t.Helper()
	wantReport(t, world.Outcome{Calls: []audit.Call{c}}, want+"\nchanges 0\nsteps 0\ndown\n")
}

// P26.4: what stands behind the calls.
func TestReportEnd(t *testing.T) {
	wantReport(t, world.Outcome{}, "changes 0\nsteps 0\ndown\n")
	wantReport(t, world.Outcome{Changes: make([]audit.Change, 3), Calls: []audit.Call{}, Steps: 50, Serving: true}, "changes 3\nsteps 50\nserving\n")
	wantReport(t, world.Outcome{Steps: -1}, "changes 0\nsteps -1\ndown\n")
}

// P26.4: what kind of a call it was.
func TestReportKinds(t *testing.T) {
	for kind := tree.Mkdir; kind <= tree.Limit; kind++ {
		c := audit.Call{Kind: audit.Write, Client: 2, Op: tree.Op{Kind: kind, Path: "/a b", To: "/c", Quota: 9}, Start: 3, End: 5, Done: true, At: 4, Data: "d"}
		wantCall(t, c, fmt.Sprintf(`2 write %d "/a b" 3 5 4 0`, kind))
	}
	c := audit.Call{Client: 1, Op: tree.Op{Kind: 7, Path: "/\n"}, Start: 3, End: 5, Done: true, At: 4, Data: "d", Names: []string{"n"}}
	for kind, want := range map[int]string{
		audit.Write: `1 write 7 "/\x0A" 3 5 4 0`,
		audit.Read:  `1 read "/\x0A" 3 5 4 0 "d"`,
		audit.List:  `1 list "/\x0A" 3 5 4 0 "n"`,
		0:           `1 other "/\x0A" 3 5 4 0`,
		4:           `1 other "/\x0A" 3 5 4 0`,
		-1:          `1 other "/\x0A" 3 5 4 0`,
		math.MaxInt: `1 other "/\x0A" 3 5 4 0`,
	} {
		c.Kind = kind
		wantCall(t, c, want)
	}
}

// P26.4: what was told, if all went well.
func TestReportTold(t *testing.T) {
	read := audit.Call{Kind: audit.Read, Client: 1, Op: tree.Op{Path: "/f"}, Start: 1, End: 2, Done: true, At: 3, Names: []string{"x"}}
	for data, want := range map[string]string{"": `""`, "a b": `"a b"`, "\"\\\n\xff": `"\"\\\x0A\xFF"`} {
		read.Data = data
		wantCall(t, read, `1 read "/f" 1 2 3 0 `+want)
	}
	list := audit.Call{Kind: audit.List, Client: 1, Op: tree.Op{Path: "/"}, Start: 1, End: 2, Done: true, At: 3, Data: "x"}
	for _, names := range [][]string{nil, {}, {"a"}, {"a", "", "b c", "\x00"}} {
		list.Names = names
		want := `1 list "/" 1 2 3 0`
		for _, name := range names {
			want += " " + modelQuoted(name)
		}
		wantCall(t, list, want)
	}
	for _, code := range []api.Errno{api.ErrNoEnt, api.ErrUnavailable, -1, math.MaxInt} {
		read.Code, list.Code, read.Data, list.Names = code, code, "d", []string{"n"}
		wantCall(t, read, fmt.Sprintf(`1 read "/f" 1 2 3 %d`, code))
		wantCall(t, list, fmt.Sprintf(`1 list "/" 1 2 3 %d`, code))
	}
}

// P26.4: calls that aren't done.
func TestReportNotDone(t *testing.T) {
	for kind, word := range map[int]string{audit.Write: "write 2", audit.Read: "read", audit.List: "list", 9: "other"} {
		for _, at := range []int{-1, 0, 7} {
			c := audit.Call{Kind: kind, Client: 3, Op: tree.Op{Kind: 2, Path: "/f"}, Start: 11, End: 12, At: at, Data: "d", Names: []string{"n"}}
			wantCall(t, c, fmt.Sprintf(`3 %s "/f" 11 - %d`, word, at))
			c.Code = api.ErrExists
			wantCall(t, c, fmt.Sprintf(`3 %s "/f" 11 - %d`, word, at))
		}
	}
}

// modelReport is a second way to write a report.
func modelReport(o world.Outcome) string {
	var lines []string
	for _, c := range o.Calls {
		word, told := "other", ""
		switch c.Kind {
		case 1:
			word = fmt.Sprintf("write %d", c.Op.Kind)
		case 2:
			word, told = "read", " "+modelQuoted(c.Data)
		case 3:
			word = "list"
			for _, name := range c.Names {
				told += " " + modelQuoted(name)
			}
		}
		how := fmt.Sprintf("- %d", c.At)
		if c.Done {
			how = fmt.Sprintf("%d %d %d", c.End, c.At, c.Code)
			if c.Code == 0 {
				how += told
			}
		}
		lines = append(lines, fmt.Sprintf("%d %s %s %d %s", c.Client, word, modelQuoted(c.Op.Path), c.Start, how))
	}
	last := map[bool]string{true: "serving", false: "down"}[o.Serving]
	lines = append(lines, fmt.Sprintf("changes %d", len(o.Changes)), fmt.Sprintf("steps %d", o.Steps), last, "")
	return strings.Join(lines, "\n")
}

// P26.4: any outcomes, in the order of their calls.
func TestAnyOutcomes(t *testing.T) {
	r := rand.New(rand.NewSource(4))
	number := func() int {
		return []int{0, 1, -1, 201, math.MinInt, math.MaxInt, r.Int()}[r.Intn(7)]
	}
	for range 5000 {
		o := world.Outcome{Changes: make([]audit.Change, r.Intn(4)), Serving: r.Intn(2) == 0, Steps: number()}
		for range r.Intn(5) {
			c := audit.Call{Kind: r.Intn(5), Client: number(), Op: tree.Op{Kind: number(), Path: anyText(r)}, Start: number(), End: number(), Done: r.Intn(3) > 0, At: number(), Data: anyText(r)}
			if r.Intn(2) == 0 {
				c.Code = api.Errno(number())
			}
			for range r.Intn(3) {
				c.Names = append(c.Names, anyText(r))
			}
			o.Calls = append(o.Calls, c)
		}
		wantReport(t, o, modelReport(o))
	}
}
