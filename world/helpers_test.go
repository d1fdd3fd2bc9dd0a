package world_test

import (
	"math"
	"math/rand"
	"slices"
	"strconv"
	"strings"
	"testing"

	"mahout/api"
	"mahout/audit"
	"mahout/crc"
	"mahout/tree"
	"mahout/world"
)

// counting is the program of chapter 21's example.
const counting = `map { each w in value by " " { emit w, "1"; } } reduce { emit key, text(sum(values)); }`

// plenty is room enough.
const plenty = 1 << 20

func mkdir(path string) world.Act            { return world.Act{Kind: world.Mkdir, Path: path} }
func create(path string) world.Act           { return world.Act{Kind: world.Create, Path: path} }
func add(path, data string) world.Act        { return world.Act{Kind: world.Append, Path: path, Data: data} }
func shut(path string) world.Act             { return world.Act{Kind: world.Close, Path: path} }
func remove(path string) world.Act           { return world.Act{Kind: world.Delete, Path: path} }
func rename(path, to string) world.Act       { return world.Act{Kind: world.Rename, Path: path, To: to} }
func limit(path string, n int) world.Act     { return world.Act{Kind: world.Limit, Path: path, Quota: n} }
func read(path string) world.Act             { return world.Act{Kind: world.Read, Path: path} }
func list(path string) world.Act             { return world.Act{Kind: world.List, Path: path} }
func status(name string) world.Act           { return world.Act{Kind: world.Status, Path: name} }
func submit(n string, j world.Job) world.Act { return world.Act{Kind: world.Submit, Path: n, Job: j} }

// file is the acts that make a closed file of these pieces.
func file(path string, pieces ...string) []world.Act {
	acts := []world.Act{create(path)}
	for _, p := range pieces {
		acts = append(acts, add(path, p))
	}
	return append(acts, shut(path))
}

// count is a job that counts words.
func count(output string, inputs ...string) world.Job {
	return world.Job{Program: counting, Output: output, Inputs: inputs, Parts: 1, Split: 4, Spill: 2}
}

// quiet is a script of one client without choices, with three data nodes, two replicas and rounds enough.
func quiet(acts ...world.Act) world.Script {
	return world.Script{Nodes: 3, Replicas: 2, Block: 64, Room: plenty, Rounds: 40*len(acts) + 20, Acts: [][]world.Act{acts}}
}

// run runs a script and has the auditor look at it.
func run(t *testing.T, s world.Script) world.Outcome {
	t.Helper()
	o := world.Run(s)
	if !o.Serving {
		t.Error("not serving")
	}
	if want := len(s.Choices) + min(max(s.Rounds, 0), api.MaxRounds); o.Steps != want {
		t.Errorf("%d steps, not %d", o.Steps, want)
	}
	if v := audit.Check(o.Changes, o.Calls); v != (audit.Verdict{}) {
		t.Errorf("the auditor: %v", v)
	}
	wantNamed(t, o)
	return o
}

// wantNamed: clients change nothing but what their calls say, and lay jobs aside. So what a client was told that it isn't done isn't.
func wantNamed(t *testing.T, o world.Outcome) {
	t.Helper()
	named := make([]bool, len(o.Changes))
	for _, c := range o.Calls {
		if c.Kind == audit.Write && (!c.Done && c.At >= 0 || c.Done && c.Code == api.OK) && c.At < len(named) {
			named[c.At] = true
		}
	}
	for i, c := range o.Changes {
		isLaidAside := strings.HasPrefix(c.Op.Path, "/jobs/.") && c.Op.Kind != tree.Rename
		if c.Client >= 1 && c.Client <= api.MaxClients && !named[i] && !isLaidAside {
			t.Errorf("change %d: no call has made it: %+v", i, c)
		}
	}
}

// wantCodes: all calls are done, and answered with these codes.
func wantCodes(t *testing.T, o world.Outcome, codes ...api.Errno) {
	t.Helper()
	if len(o.Calls) != len(codes) {
		t.Fatalf("%d calls, not %d", len(o.Calls), len(codes))
	}
	for i, c := range o.Calls {
		if !c.Done || c.Code != codes[i] {
			t.Errorf("call %d (%v): done %v, code %d, not %d", i, c.Op, c.Done, c.Code, codes[i])
		}
	}
}

func wantData(t *testing.T, c audit.Call, data string) {
	t.Helper()
	if !c.Done || c.Code != api.OK || c.Data != data {
		t.Errorf("read %s: done %v, code %d, %.200q, not %.200q", c.Op.Path, c.Done, c.Code, c.Data, data)
	}
}

func wantNames(t *testing.T, c audit.Call, names ...string) {
	t.Helper()
	if !c.Done || c.Code != api.OK || !slices.Equal(c.Names, names) {
		t.Errorf("list %s: done %v, code %d, %q, not %q", c.Op.Path, c.Done, c.Code, c.Names, names)
	}
}

// past is the namespace behind some of an outcome's changes.
type past struct {
	*tree.Tree
	texts map[api.Block]string
}

// replay makes the changes one after the other; ahead of the first, and behind each, it has a look: at how many were made.
func replay(t *testing.T, o world.Outcome, look func(p past, made int)) past {
	t.Helper()
	p := past{tree.New(), map[api.Block]string{}}
	look(p, 0)
	for i, c := range o.Changes {
		if c.Op.Kind == tree.Add {
			p.texts[c.Op.Piece.Block] = c.Data
		}
		if code := p.Apply(c.Op); code != api.OK {
			t.Fatalf("change %d: %d", i, code)
		}
		look(p, i+1)
	}
	return p
}

func end(t *testing.T, o world.Outcome) past {
	t.Helper()
	return replay(t, o, func(past, int) {})
}

// data: the bytes of a closed file.
func (p past) data(path string) (string, bool) {
	info, code := p.Stat(path)
	if code != api.OK || info.Dir || info.Open {
		return "", false
	}
	var data strings.Builder
	for _, piece := range info.Pieces {
		data.WriteString(p.texts[piece.Block])
	}
	return data.String(), true
}

// state: of a job.
func (p past) state(name string) (int, api.Errno) {
	names, _ := p.List("/jobs/" + name)
	return world.StateOf(names)
}

func wantState(t *testing.T, p past, name string, state int, code api.Errno) {
	t.Helper()
	if s, c := p.state(name); s != state || c != code {
		names, _ := p.List("/jobs/" + name)
		t.Errorf("job %s: %d %d, not %d %d: %q", name, s, c, state, code, names)
	}
}

// wantOutput: the directory holds just these parts and the marker.
func wantOutput(t *testing.T, p past, path string, parts []string) {
	t.Helper()
	names := []string{"_SUCCESS"}
	for k := range parts {
		names = append(names, "part-"+strconv.Itoa(k))
	}
	slices.Sort(names)
	there, code := p.List(path)
	if code != api.OK || !slices.Equal(there, names) {
		t.Errorf("%s: %d, %q", path, code, there)
	}
	if data, closed := p.data(path + "/_SUCCESS"); !closed || data != "" {
		t.Errorf("%s: the marker: %v %q", path, closed, data)
	}
	for k, want := range parts {
		if data, closed := p.data(path + "/part-" + strconv.Itoa(k)); !closed || data != want {
			t.Errorf("%s: part %d: %v %.200q, not %.200q", path, k, closed, data, want)
		}
	}
}

// pieceOf is a piece as an Append makes it, but for its block.
func pieceOf(data string) api.Piece {
	return api.Piece{Size: len(data), Sum: crc.Sum(data)}
}

// crashes are choices by which nodes crash and come up again.
func crashes(r *rand.Rand) int {
	return 59 + r.Intn(3) + 64*(r.Intn(2)+4*r.Intn(1<<20))
}

// anyChoices are up to n choices of one of many kinds of worlds: what a choice does depends on its remainders, so some of these come more often in one world than in another.
func anyChoices(r *rand.Rand, n int) []int {
	choices := make([]int, r.Intn(n+1))
	often := make([]int, 1+r.Intn(5))
	for i := range often {
		often[i] = r.Intn(64)
	}
	share, crashing := []int{0, 0, 5, 20, 50}[r.Intn(5)], []int{0, 0, 2, 10}[r.Intn(4)]
	most := []int{1 << 10, 1 << 20, math.MaxInt}[r.Intn(3)]
	for i := range choices {
		choices[i] = r.Intn(most)
		switch roll := r.Intn(100); {
		case roll < share:
			choices[i] = often[r.Intn(len(often))] + 64*r.Intn(1<<24)
		case roll < share+crashing:
			choices[i] = crashes(r)
		}
		if r.Intn(10) == 0 {
			choices[i] = -choices[i]
		}
	}
	return choices
}
