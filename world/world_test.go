package world_test

import (
	"math"
	"math/rand"
	"reflect"
	"slices"
	"strings"
	"testing"

	"mahout/api"
	"mahout/audit"
	"mahout/tree"
	"mahout/world"
)

// The chapter's numbers.
func TestNumbers(t *testing.T) {
	kinds := []int{world.Mkdir, world.Create, world.Append, world.Close, world.Delete, world.Rename, world.Limit, world.Read, world.List, world.Submit, world.Status}
	for i, kind := range kinds {
		if kind != i+1 {
			t.Errorf("kind %d: %d", i+1, kind)
		}
	}
	if world.Absent != 0 || world.Running != 1 || world.Succeeded != 2 || world.Failed != 3 {
		t.Error("states")
	}
}

// P25.1, P25.2: nothing to do.
func TestNothing(t *testing.T) {
	for _, s := range []world.Script{{}, {Nodes: -1, Replicas: -1, Block: -1, Room: -1, Rounds: -1}, {Acts: [][]world.Act{nil, {}, {{}}}}, {Choices: []int{}}} {
		if o := run(t, s); len(o.Calls) != 0 || len(o.Changes) != 0 {
			t.Errorf("%v", o)
		}
	}
}

// DOC.md, example 1.
func TestExample1(t *testing.T) {
	o := run(t, quiet(mkdir("/a"), list("/")))
	wantCodes(t, o, api.OK, api.OK)
	wantNames(t, o.Calls[1], "a", "jobs")
}

// DOC.md, example 2.
func TestExample2(t *testing.T) {
	o := run(t, quiet(create("/f"), add("/f", "ab"), add("/f", "c"), read("/f")))
	wantCodes(t, o, api.OK, api.OK, api.OK, api.OK)
	wantData(t, o.Calls[3], "abc")
}

// DOC.md, example 3.
func TestExample3(t *testing.T) {
	wantCodes(t, run(t, quiet(create("/f"), create("/f"), add("/g", "x"))), api.OK, api.ErrExists, api.ErrNoEnt)
}

// DOC.md, example 4.
func TestExample4(t *testing.T) {
	wantCodes(t, run(t, quiet(create("/f"), shut("/f"), add("/f", "x"))), api.OK, api.OK, api.ErrLease)
}

// DOC.md, example 5.
func TestExample5(t *testing.T) {
	wantCodes(t, run(t, quiet(limit("/", 2), mkdir("/a"), mkdir("/b"))), api.OK, api.OK, api.ErrQuota)
}

// DOC.md, example 10.
func TestExample10(t *testing.T) {
	o := run(t, quiet(mkdir("/a"), rename("/a", "/a/b"), create("/f"), rename("/f", "/g"), shut("/f"), rename("/f", "/g")))
	wantCodes(t, o, api.OK, api.ErrInside, api.OK, api.ErrOpen, api.OK, api.OK)
}

// What each kind of an Act does, and what its Call says.
func TestActs(t *testing.T) {
	acts := []world.Act{
		mkdir("/a"), create("/a/f"), add("/a/f", "x\x00\xff"), shut("/a/f"), rename("/a/f", "/g"), limit("/a", 3), read("/g"), list("/a"), remove("/a"), status("no"),
		read("/"), read("/h"), list("/g"), read(""), limit("/g", 1), limit("/", -1), remove("/"),
	}
	o := run(t, quiet(acts...))
	wantCodes(t, o,
		api.OK, api.OK, api.OK, api.OK, api.OK, api.OK, api.OK, api.OK, api.OK, api.ErrNoEnt,
		api.ErrIsDir, api.ErrNoEnt, api.ErrNotDir, api.ErrPath, api.ErrNotDir, api.ErrArg, api.ErrPath)
	for i, c := range o.Calls {
		act := acts[i]
		kind, op := audit.Write, tree.Op{Kind: act.Kind, Path: act.Path, To: act.To, Quota: act.Quota}
		switch act.Kind {
		case world.Read, world.List, world.Status:
			kind, op.Kind = audit.Read, 0
			if act.Kind != world.Read {
				kind = audit.List
			}
			if act.Kind == world.Status {
				op.Path = "/jobs/" + act.Path
			}
		}
		c.Op.Client, c.Op.Piece = 0, api.Piece{}
		if c.Client != 1 || c.Kind != kind || c.Op != op {
			t.Errorf("call %d: %+v", i, c)
		}
		if c.Start > c.End || c.End > o.Steps || i > 0 && c.Start < o.Calls[i-1].End {
			t.Errorf("call %d: from %d to %d", i, c.Start, c.End)
		}
	}
	wantData(t, o.Calls[6], "x\x00\xff")
	wantNames(t, o.Calls[7])
	if o.Calls[2].Data != "x\x00\xff" {
		t.Errorf("appended: %q", o.Calls[2].Data)
	}
}

// Data that is too long, or empty: ErrUnavailable, and nothing is asked of anybody. Block is cut to its bounds.
func TestAppendLengths(t *testing.T) {
	for _, b := range []struct{ block, most int }{{math.MinInt, 1}, {0, 1}, {1, 1}, {7, 7}, {api.MaxBlock, api.MaxBlock}, {api.MaxBlock + 1, api.MaxBlock}, {math.MaxInt, api.MaxBlock}} {
		long := strings.Repeat("x", b.most+1)
		s := quiet(create("/f"), add("/f", ""), add("/f", long), add("/f", long[1:]), add("/g", long), read("/f"))
		s.Block = b.block
		o := run(t, s)
		wantCodes(t, o, api.OK, api.ErrUnavailable, api.ErrUnavailable, api.OK, api.ErrUnavailable, api.OK)
		wantData(t, o.Calls[5], long[1:])
		for i, data := range []string{"", "", long, long[1:], long} {
			if c := o.Calls[i]; c.Data != data {
				t.Errorf("block %d, call %d: %q", b.block, i, c.Data)
			}
		}
		for _, i := range []int{1, 2, 4} {
			if c := o.Calls[i]; c.Start != c.End {
				t.Errorf("block %d, call %d: it took from %d to %d", b.block, i, c.Start, c.End)
			}
		}
	}
}

// What can't be laid down for want of room is ErrFull; what the namespace refuses is told all the same.
func TestRoom(t *testing.T) {
	for _, room := range []int{math.MinInt, 0, 1, 30} {
		s := quiet(mkdir("/a"), create("/f"), add("/f", "abc"), add("/a", "abc"), add("/g", "abc"), read("/f"), shut("/f"), submit("w", count("/out")), list("/jobs"))
		s.Room = room
		o := run(t, s)
		wantCodes(t, o, api.OK, api.OK, api.ErrFull, api.ErrIsDir, api.ErrNoEnt, api.OK, api.OK, api.ErrFull, api.OK)
		wantData(t, o.Calls[5], "")
		wantNames(t, o.Calls[8])
	}
	s := quiet(list("/"), list("/"), add("/g", "abc"))
	s.Acts = append(s.Acts, []world.Act{create("/g")})
	s.Room = 0
	wantCodes(t, run(t, s), api.OK, api.OK, api.ErrLease, api.OK)
	s = quiet(create("/f"), add("/f", "abc"), read("/f"))
	s.Room = math.MaxInt
	wantCodes(t, run(t, s), api.OK, api.OK, api.OK)
}

// Room that isn't needed any more can be used again.
func TestRoomAgain(t *testing.T) {
	var acts []world.Act
	for range 20 {
		acts = append(acts, create("/f"), add("/f", strings.Repeat("x", 64)), remove("/f"))
		for range 10 { // in this time the data nodes are told to drop the block
			acts = append(acts, read("/f"))
		}
	}
	s := quiet(acts...)
	s.Nodes, s.Room = 1, 400
	for i, c := range run(t, s).Calls {
		if want := []api.Errno{api.OK, api.OK, api.OK}; i%13 < 3 && c.Code != want[i%13] {
			t.Errorf("call %d: %d", i, c.Code)
		}
	}
}

// The numbers of a script are cut to their bounds.
func TestBounds(t *testing.T) {
	for _, n := range []int{math.MinInt, -1, 0, 1, 3, api.MaxData, api.MaxData + 1, math.MaxInt} {
		s := quiet(create("/f"), add("/f", "abc"), add("/f", "d"), read("/f"))
		s.Nodes, s.Replicas = n, n
		o := run(t, s)
		wantCodes(t, o, api.OK, api.OK, api.OK, api.OK)
		wantData(t, o.Calls[3], "abcd")
		cut := s
		cut.Nodes, cut.Replicas = min(max(n, 1), api.MaxData), min(max(n, 1), api.MaxData)
		if !reflect.DeepEqual(o, world.Run(cut)) {
			t.Errorf("%d nodes aren't as many as %d", n, cut.Nodes)
		}
		cut.Replicas = math.MaxInt
		if !reflect.DeepEqual(o, world.Run(cut)) {
			t.Errorf("no more replicas than nodes: %d", cut.Nodes)
		}
	}
	for _, n := range []int{math.MinInt, -1, 0} {
		if o := run(t, world.Script{Rounds: n, Acts: [][]world.Act{{mkdir("/a")}}}); o.Steps != 0 || len(o.Calls) != 0 {
			t.Errorf("%d rounds: %v", n, o)
		}
	}
	if o := run(t, world.Script{Rounds: math.MaxInt}); o.Steps != api.MaxRounds {
		t.Errorf("%d steps", o.Steps)
	}
}

// Only the first clients do something, and acts of other kinds are left out.
func TestClients(t *testing.T) {
	var s world.Script
	s.Rounds = 100
	for range api.MaxClients + 2 {
		s.Acts = append(s.Acts, []world.Act{{Kind: 0}, mkdir("/a"), {Kind: 12}, list("/"), {Kind: -1, Path: "/"}, {Kind: math.MaxInt}, {Kind: math.MinInt}})
	}
	o := run(t, s)
	made := 0
	for i, c := range o.Calls {
		if c.Client != 1+i/2 || !c.Done || c.Kind != []int{audit.Write, audit.List}[i%2] {
			t.Errorf("call %d: %+v", i, c)
		}
		if c.Kind == audit.Write && c.Code == api.OK {
			made++
		}
	}
	if len(o.Calls) != 2*api.MaxClients || made != 1 {
		t.Errorf("%d calls, %d made", len(o.Calls), made)
	}
}

// A client's changes have its number, those of the name node itself 0, those of the nodes' processes others.
func TestWhoMadeIt(t *testing.T) {
	s := quiet(file("/i", "a b\n")...)
	s.Acts = append(s.Acts, []world.Act{submit("w", count("/out", "/i")), create("/open")})
	s.Rounds = 1000
	o := run(t, s)
	seen := map[int]int{}
	for _, c := range o.Changes {
		seen[c.Client]++
		switch {
		case c.Op.Kind == tree.Expire && c.Client != 0, c.Op.Kind != tree.Expire && c.Client == 0, c.Op.Kind != tree.Expire && c.Op.Client != c.Client:
			t.Errorf("%+v", c)
		case c.Op.Path == "/i" && c.Client != 1, c.Op.Path == "/open" && c.Client != 2 && c.Client != 0, c.Op.Path == "/jobs" && c.Client <= api.MaxClients:
			t.Errorf("%+v", c)
		}
	}
	if seen[0] != 1 || seen[1] != 3 || len(seen) != 5 {
		t.Errorf("%v", seen)
	}
	if data, closed := end(t, o).data("/open"); !closed || data != "" {
		t.Error("a file whose holder does nothing any more stays open")
	}
}

// P25.1: paths, names and data of any bytes and lengths.
func TestAnyTexts(t *testing.T) {
	long := strings.Repeat("/x", 1<<20)
	path255 := strings.Repeat("/"+strings.Repeat("p", 50), 5)
	texts := []string{"", "/", "x", "/\x00", "/.", "/..", "//", "/\xff", long, long[:257], long[:256], path255, path255 + "/a", path255 + "/", "/a b", "/ä"}
	var acts []world.Act
	for _, p := range texts {
		acts = append(acts, mkdir(p), create(p), add(p, "x"), shut(p), limit(p, 0), read(p), list(p), submit(p, count(p, p)), status(p), rename(p, "/to"), rename("/from", p), remove(p))
	}
	o := run(t, quiet(acts...))
	for i, c := range o.Calls {
		act := acts[i]
		if !c.Done || c.Code == api.ErrUnavailable {
			t.Errorf("call %d: %.80q: %v %d", i, act.Path, c.Done, c.Code)
		}
		if act.Kind != world.Submit && act.Kind != world.Status && (c.Op.Path != act.Path || c.Op.To != act.To) {
			t.Errorf("call %d: %.80q", i, c.Op.Path)
		}
	}
}

// scripted is a script that does many things.
func scripted(seed int64) world.Script {
	r := rand.New(rand.NewSource(seed))
	return anyScript(r)
}

// P25.1: the same script comes to the same, and stays as it is.
func TestSameAgain(t *testing.T) {
	for seed := range int64(40) {
		s, same := scripted(seed), scripted(seed)
		first := world.Run(s)
		if !reflect.DeepEqual(s, same) {
			t.Fatalf("seed %d: the script has changed", seed)
		}
		if again := world.Run(s); !reflect.DeepEqual(first, again) {
			t.Fatalf("seed %d: it isn't the same again", seed)
		}
	}
}

// An answer shares no memory with another one, or with the script.
func TestAnswersAreNew(t *testing.T) {
	s := quiet(append(file("/f", "ab"), list("/"), list("/"))...)
	first, second := world.Run(s), world.Run(s)
	whole := world.Run(s)
	clear(first.Changes)
	for i := range first.Calls {
		clear(first.Calls[i].Names)
	}
	clear(first.Calls)
	for i := range s.Acts[0] {
		s.Acts[0][i].Path = "changed"
	}
	if !reflect.DeepEqual(second, whole) {
		t.Error("they share memory")
	}
}

// P25.5
func TestStateOf(t *testing.T) {
	for _, w := range []struct {
		names string
		state int
		code  api.Errno
	}{
		{"", world.Absent, 0}, {"spec", world.Absent, 0}, {"out trash", world.Absent, 0}, {"Token READY", world.Absent, 0},
		{"token", world.Running, 0}, {"spec token", world.Running, 0}, {"token out work", world.Running, 0},
		{"ready out", world.Running, 0}, {"ready trash", world.Running, 0}, {"out ready trash", world.Running, 0}, {"token ready out", world.Running, 0},
		{"ready", world.Succeeded, 0}, {"ready token", world.Succeeded, 0}, {"spec ready work", world.Succeeded, 0}, {"ready outs xtrash", world.Succeeded, 0},
		{"failed-212", world.Failed, 212}, {"ready failed-210", world.Failed, 210}, {"token failed-1 out", world.Failed, 1}, {"failed-213 failed-214", world.Failed, 213}, {"failed-214 failed-213", world.Failed, 214},
		{"failed-", world.Failed, 0}, {"failed-x", world.Failed, 0}, {"failed-12x", world.Failed, 0}, {"failed-12345", world.Failed, 0}, {"failed-9999", world.Failed, 9999}, {"failed--1", world.Failed, 0}, {"failed-+12", world.Failed, 0},
		{"failed-0", world.Failed, 0}, {"failed-0007", world.Failed, 7}, {"failed-00007", world.Failed, 0}, {"failed-x failed-211", world.Failed, 0}, {"failed-\xff", world.Failed, 0}, {"failed-²", world.Failed, 0},
		{"failed", world.Absent, 0}, {"xfailed-212 token", world.Running, 0}, {"Failed-212", world.Absent, 0},
	} {
		names := strings.Fields(w.names)
		if state, code := world.StateOf(names); state != w.state || code != w.code {
			t.Errorf("%q: %d %d, not %d %d", w.names, state, code, w.state, w.code)
		}
		if !slices.Equal(names, strings.Fields(w.names)) {
			t.Errorf("%q have changed", w.names)
		}
	}
	if state, code := world.StateOf([]string{"", "ready "}); state != world.Absent || code != 0 {
		t.Errorf("%d %d", state, code)
	}
}
