package world_test

import (
	"math/rand"
	"strings"
	"testing"

	"mahout/api"
	"mahout/audit"
	"mahout/tree"
	"mahout/world"
)

// anyPath is a path of a small tree, most often one that a job has nothing to do with.
func anyPath(r *rand.Rand) string {
	paths := []string{"/a", "/b", "/a/b", "/f", "/g", "/a/f", "/jobs", "/jobs/w", "/out", "/", "", "x", "/jobs/w/out", "/jobs/w/token", "/jobs/x", "/jobs/w/work", "/jobs/x/ready", "/jobs/w/spec"}
	if r.Intn(3) > 0 {
		return paths[r.Intn(6)]
	}
	return paths[r.Intn(len(paths))]
}

func anyJob(r *rand.Rand) world.Job {
	j := world.Job{Program: counting, Output: anyPath(r), Parts: r.Intn(4), Split: r.Intn(5), Spill: r.Intn(3)}
	for range r.Intn(3) {
		j.Inputs = append(j.Inputs, anyPath(r))
	}
	if r.Intn(5) == 0 {
		j.Program = "map {"
	}
	return j
}

func anyAct(r *rand.Rand) world.Act {
	data := []string{"a", "a b\n", "b\nc\n", "", "xyz xyz\n", strings.Repeat("q", 30)}
	kinds := []int{1, 2, 2, 2, 3, 3, 3, 3, 3, 4, 4, 5, 6, 7, 8, 8, 8, 9, 9, 10, 11, 0, 12}
	a := world.Act{Kind: kinds[r.Intn(len(kinds))], Path: anyPath(r), To: anyPath(r), Data: data[r.Intn(len(data))], Quota: r.Intn(12) - 1}
	if a.Kind == world.Limit && r.Intn(3) > 0 {
		a.Quota = 0
	}
	if a.Kind == world.Submit || a.Kind == world.Status {
		a.Path = []string{"w", "x", "y", "", ".z", "a/b", "w/x"}[r.Intn(7)]
		a.Job = anyJob(r)
	}
	return a
}

// anyScript is a script in which anybody may meddle with anything.
func anyScript(r *rand.Rand) world.Script {
	s := world.Script{
		Nodes:    r.Intn(api.MaxData+3) - 1,
		Replicas: r.Intn(5),
		Block:    r.Intn(60),
		Room:     []int{plenty, api.MaxRoom, 3000, 500, 0}[r.Intn(5)],
		Choices:  anyChoices(r, []int{0, 100, 1000, 5000}[r.Intn(4)]),
		Rounds:   []int{0, 0, 10, 100, 400}[r.Intn(5)],
		Flips:    r.Intn(3) == 0,
	}
	for range r.Intn(6) {
		var acts []world.Act
		for range r.Intn(25) {
			acts = append(acts, anyAct(r))
		}
		s.Acts = append(s.Acts, acts)
	}
	return s
}

// P25.1 to P25.3, and P3: whatever the choices, the auditor finds nothing wrong. (That a Read answers other bytes with the same checksum doesn't come about by chance.)
func TestAnyScripts(t *testing.T) {
	codes := map[api.Errno]int{}
	lost, lostButMade := 0, 0
	for seed := range int64(1500) {
		s := scripted(seed)
		o := run(t, s)
		wantOrder(t, s, o)
		for _, c := range o.Calls {
			switch {
			case c.Done:
				codes[c.Code]++
			case c.Kind == audit.Write && c.At >= 0:
				lostButMade++
			default:
				lost++
			}
		}
		if t.Failed() {
			t.Fatalf("seed %d", seed)
		}
	}
	for _, code := range []api.Errno{api.OK, api.ErrUnavailable, api.ErrFull, api.ErrNoEnt, api.ErrExists, api.ErrLease, api.ErrQuota, api.ErrOpen} {
		if codes[code] == 0 {
			t.Errorf("no call was answered with %d", code)
		}
	}
	if lost == 0 || lostButMade == 0 {
		t.Errorf("%d calls were lost, and %d more that were done", lost, lostButMade)
	}
}

// wantOrder: each client's calls stand in the order of its acts, one for each, as far as they were begun; and all but the last one, if they were given up, have ended ahead of the next one.
func wantOrder(t *testing.T, s world.Script, o world.Outcome) {
	t.Helper()
	var calls [1 + api.MaxClients][]audit.Call
	for _, c := range o.Calls {
		calls[c.Client] = append(calls[c.Client], c)
	}
	for i, acts := range s.Acts[:min(len(s.Acts), api.MaxClients)] {
		own := calls[i+1]
		for _, act := range acts {
			if act.Kind < world.Mkdir || act.Kind > world.Status {
				continue
			}
			if len(own) == 0 {
				break
			}
			if !isOf(own[0], act) {
				t.Errorf("client %d: %+v isn't the call of %+v", i+1, own[0], act)
			}
			own = own[1:]
		}
		if len(own) > 0 {
			t.Errorf("client %d has done too much", i+1)
		}
	}
}

// isOf: is it this act's call?
func isOf(c audit.Call, act world.Act) bool {
	switch act.Kind {
	case world.Read:
		return c.Kind == audit.Read && c.Op.Path == act.Path
	case world.List:
		return c.Kind == audit.List && c.Op.Path == act.Path
	case world.Status:
		return c.Kind == audit.List && c.Op.Path == "/jobs/"+act.Path
	case world.Submit:
		return c.Kind == audit.Write && c.Op.Kind == tree.Rename && c.Op.To == "/jobs/"+act.Path && strings.HasPrefix(c.Op.Path, "/jobs/.")
	case world.Append:
		return c.Kind == audit.Write && c.Op.Kind == tree.Add && c.Op.Path == act.Path && c.Data == act.Data
	}
	return c.Kind == audit.Write && c.Op.Kind == act.Kind && c.Op.Path == act.Path && c.Data == ""
}

// P25.4: with one client and no choices all calls are done, and none is ErrUnavailable.
func TestAlone(t *testing.T) {
	for seed := range int64(400) {
		r := rand.New(rand.NewSource(seed))
		var acts []world.Act
		for range 1 + r.Intn(25) {
			a := anyAct(r)
			if a.Kind < world.Mkdir || a.Kind > world.Status || a.Kind == world.Append && a.Data == "" {
				continue
			}
			acts = append(acts, a)
		}
		s := quiet(acts...)
		s.Nodes, s.Replicas, s.Block = 1+r.Intn(api.MaxData), r.Intn(api.MaxData), 30+r.Intn(100)
		for i, c := range run(t, s).Calls {
			if !c.Done || c.Code == api.ErrUnavailable {
				t.Errorf("seed %d: call %d: %v %d: %+v", seed, i, c.Done, c.Code, c.Op)
			}
		}
	}
}

// P25.4: pieces as small, and files as long, as they may be.
func TestAloneWithManyPieces(t *testing.T) {
	var acts []world.Act
	acts = append(acts, create("/f"))
	for range api.MaxBlocks + 1 {
		acts = append(acts, add("/f", "x"))
	}
	acts = append(acts, read("/f"), shut("/f"), submit("w", count("/out", "/f")), read("/f"))
	s := quiet(acts...)
	s.Block = 1
	o := run(t, s)
	for i, c := range o.Calls {
		want := api.OK
		if i == api.MaxBlocks+1 {
			want = api.ErrLong
		}
		if !c.Done || c.Code != want {
			t.Errorf("call %d: %v %d", i, c.Done, c.Code)
		}
	}
	wantData(t, o.Calls[api.MaxBlocks+2], strings.Repeat("x", api.MaxBlocks))
	p := end(t, o)
	wantState(t, p, "w", world.Succeeded, 0)
	wantOutput(t, p, "/out", []string{strings.Repeat("x", api.MaxBlocks) + "\t1\n"})
}

// Where nothing but the rounds goes on, each client's first acts are done at once; a script without rounds and with choices does them too.
func TestChoicesAlone(t *testing.T) {
	done := 0
	for seed := range int64(30) {
		r := rand.New(rand.NewSource(seed))
		s := quiet(create("/f"), add("/f", "ab"), shut("/f"), read("/f"))
		s.Rounds = 0
		for range 4000 {
			s.Choices = append(s.Choices, int(r.Uint64()))
		}
		o := run(t, s)
		for _, c := range o.Calls {
			if c.Done && c.Code == api.OK {
				done++
			}
		}
	}
	if done < 60 {
		t.Errorf("%d of 120 calls were done", done)
	}
}
