package world_test

import (
	"math/rand"
	"slices"
	"strconv"
	"strings"
	"testing"

	"mahout/api"
	"mahout/local"
	"mahout/splits"
	"mahout/tree"
	"mahout/world"
)

// settled is a quiet script with as many rounds as a job of so many maps and parts may take.
func settled(tasks int, acts ...world.Act) world.Script {
	s := quiet(acts...)
	s.Rounds = 600 + 150*tasks
	return s
}

// textsOf: what a job comes to in one place.
func textsOf(t *testing.T, j world.Job, inputs ...string) []string {
	t.Helper()
	texts, err := local.Run(local.Job{Program: j.Program, Parts: j.Parts, Split: j.Split, Spill: j.Spill}, inputs...)
	if err != api.OK {
		t.Fatalf("layer 21: %d", err)
	}
	return texts
}

// DOC.md, example 6.
func TestExample6(t *testing.T) {
	o := run(t, settled(3, append(file("/f", "a b\n", "b\n"), submit("w", count("/out", "/f")))...))
	p := end(t, o)
	wantState(t, p, "w", world.Succeeded, 0)
	wantOutput(t, p, "/out", []string{"a\t1\nb\t2\n"})
}

// wantFailed: a job fails with this code, and its output is nowhere.
func wantFailed(t *testing.T, code api.Errno, o world.Outcome, output string) {
	t.Helper()
	p := end(t, o)
	wantState(t, p, "w", world.Failed, code)
	if _, there := p.Stat(output); output != "" && there != api.ErrNoEnt {
		t.Errorf("%s: %d", output, there)
	}
}

// DOC.md, example 7.
func TestExample7(t *testing.T) {
	o := run(t, settled(3, append(file("/f", "a b\n", "b\n"), submit("w", count("/f", "/f")), read("/f"))...))
	wantFailed(t, api.ErrOutput, o, "")
	wantData(t, o.Calls[5], "a b\nb\n")
	if names, _ := end(t, o).List("/jobs/w"); !slices.Contains(names, "trash") || slices.Contains(names, "out") {
		t.Errorf("%q", names)
	}
}

// DOC.md, example 8.
func TestExample8(t *testing.T) {
	j := count("/out", "/f")
	j.Program = "map {"
	wantFailed(t, api.ErrProgram, run(t, settled(3, append(file("/f", "a b\n", "b\n"), submit("w", j))...)), "/out")
}

// DOC.md, example 9.
func TestExample9(t *testing.T) {
	wantFailed(t, api.ErrInput, run(t, settled(3, submit("w", count("/out", "/f")))), "/out")
}

// What makes a job fail, and how.
func TestFailures(t *testing.T) {
	wrong := func(change func(j *world.Job)) world.Act {
		j := count("/out", "/f")
		change(&j)
		return submit("w", j)
	}
	for _, w := range []struct {
		code api.Errno
		act  world.Act
	}{
		{api.ErrProgram, wrong(func(j *world.Job) { j.Program = "" })},
		{api.ErrProgram, wrong(func(j *world.Job) { j.Program += strings.Repeat(" ", api.MaxCode) })},
		{api.ErrProgram, wrong(func(j *world.Job) { j.Program = strings.Repeat("\x00", 2<<20) })},
		{api.ErrProgram, wrong(func(j *world.Job) { j.Parts = 0 })},
		{api.ErrProgram, wrong(func(j *world.Job) { j.Parts = api.MaxParts + 1 })},
		{api.ErrProgram, wrong(func(j *world.Job) { j.Split = 0 })},
		{api.ErrProgram, wrong(func(j *world.Job) { j.Spill = -1 })},
		{api.ErrProgram, wrong(func(j *world.Job) { j.Spill, j.Inputs = 0, []string{"/no"} })},
		{api.ErrInput, wrong(func(j *world.Job) { j.Inputs = []string{"/f", "/no"} })},
		{api.ErrInput, wrong(func(j *world.Job) { j.Inputs = []string{"/d"} })},
		{api.ErrInput, wrong(func(j *world.Job) { j.Inputs = []string{"/f", "/open"} })},
		{api.ErrInput, wrong(func(j *world.Job) { j.Inputs = []string{""} })},
		{api.ErrInput, wrong(func(j *world.Job) { j.Inputs = []string{"/f" + strings.Repeat("x", 2<<20)} })},
		{api.ErrInput, wrong(func(j *world.Job) { j.Inputs = append(slices.Repeat([]string{"/f"}, api.MaxTasks+1), "/no") })},
		{api.ErrResource, wrong(func(j *world.Job) { j.Split, j.Inputs = 1, slices.Repeat([]string{"/f"}, api.MaxTasks/3+1) })},
		{api.ErrOutput, wrong(func(j *world.Job) { j.Output = "/no/out" })},
		{api.ErrOutput, wrong(func(j *world.Job) { j.Output = "/f/out" })},
		{api.ErrOutput, wrong(func(j *world.Job) { j.Output = "/d" })},
		{api.ErrOutput, wrong(func(j *world.Job) { j.Output = "/" })},
		{api.ErrOutput, wrong(func(j *world.Job) { j.Output = "out" })},
		{api.ErrOutput, wrong(func(j *world.Job) { j.Output = "/jobs/w/out/x" })},
		{api.ErrOutput, wrong(func(j *world.Job) { j.Output = "/jobs/w/out" })},
		{api.ErrOutput, wrong(func(j *world.Job) { j.Output = "/" + strings.Repeat("x", 2<<20) })},
	} {
		acts := append(file("/f", "a b"), mkdir("/d"), w.act, create("/open"), add("/open", "x"))
		for range 300 { // so that the file stays open
			acts = append(acts, read("/open"))
		}
		output := "/out"
		if w.code == api.ErrOutput {
			output = ""
		}
		wantFailed(t, w.code, run(t, quiet(acts...)), output)
	}
}

// Attempts that find no room: on the disks, in a file, or below a directory.
func TestNoRoomForAttempts(t *testing.T) {
	square := count("/out", "/f") // a text for each two words of the input
	square.Program = `map { each w in value by " " { emit "", w; } } reduce { for v in values { for u in values { emit v, u; } } }`
	line := strings.Repeat("word ", 12) + "\n"
	input := file("/f", slices.Repeat([]string{line}, 10)...)

	s := settled(150, append(input, submit("w", square))...)
	s.Nodes, s.Room = 1, 6000 // for the spec and the input, but not for a part beside them
	wantFailed(t, api.ErrAttempts, run(t, s), "/out")

	s = settled(150, append(input, limit("/", 8), submit("w", square))...) // /f, /jobs, w, spec, token, out, work: and one file
	s.Acts[0][len(input)+1].Job.Parts = 2
	wantFailed(t, api.ErrAttempts, run(t, s), "/out")

	long := count("/out", "/f") // a part that is longer than a file can be
	long.Program = `map { each w in value by " " { emit "", value; } } reduce {
		for v in values { each w in v by "" {
			let a = cat(v, v); let b = cat(a, a); let c = cat(b, b); let d = cat(c, c); let e = cat(d, d); let f = cat(e, e); let g = cat(f, f); emit g, g; emit g, g; emit g, g; emit g, g; emit g, g; emit g, g; emit g, g; emit g, g;
		} }
	}`
	s = settled(300, append(input, submit("w", long))...)
	s.Room = api.MaxRoom
	wantFailed(t, api.ErrAttempts, run(t, s), "/out")
}

// A pair that is longer than a letter can be.
func TestNoRoomForAPair(t *testing.T) {
	acts := []world.Act{create("/f")}
	for range 70 {
		acts = append(acts, add("/f", strings.Repeat("x", api.MaxBlock)))
	}
	j := count("/out", "/f")
	j.Program, j.Split = `map { emit value, value; } reduce { }`, 1<<20
	s := quiet(append(acts, shut("/f"), submit("w", j))...)
	s.Block, s.Room = api.MaxBlock, api.MaxRoom
	wantFailed(t, api.ErrAttempts, run(t, s), "/out")
}

// wantSteady: at every moment the outputs of these jobs are absent or whole, and no job's end changes.
func wantSteady(t *testing.T, o world.Outcome, jobs map[string]world.Job, texts map[string][]string) past {
	t.Helper()
	ended := map[string][2]int{}
	was := map[string]bool{}
	return replay(t, o, func(p past, made int) {
		for name, j := range jobs {
			state, code := p.state(name)
			now := [2]int{state, int(code)}
			if then, has := ended[name]; has && then != now {
				t.Errorf("behind %d changes job %s is %v, not %v", made, name, now, then)
			}
			if state == world.Succeeded || state == world.Failed {
				ended[name] = now
			}
			_, there := p.Stat(j.Output)
			if there == api.OK && !was[name] {
				wantOutput(t, p, j.Output, texts[name])
			}
			if there == api.OK != (state == world.Succeeded) {
				t.Errorf("behind %d changes job %s is %v, and its output: %d", made, name, now, there)
			}
			was[name] = there == api.OK
		}
	})
}

// programs are right ones of many kinds.
var programs = []string{
	counting,
	`map { emit value, key; } reduce { for v in values { emit key, v; } }`,
	`map { each w in value by " " { emit w, "1"; } } combine { emit key, text(sum(values)); } reduce { emit key, text(sum(values)); }`,
	`map { each w in value by " " { emit w, "1"; } } reduce { emit key, text(count(values)); } part len(key);`,
	`map { } reduce { }`,
	`map { emit "all", value; } reduce { emit first(values), text(count(values)); }`,
	`map { each w in value by "" { emit w, "1"; } } reduce { emit upper(key), join(values, "-"); } part 0;`,
}

// rightJob is a client's acts that make inputs, submit a job and look how it does; the job, and how many maps and parts it has.
func rightJob(r *rand.Rand, name string, block int) ([]world.Act, world.Job, int) {
	lines := []string{"a b\n", "c\n", "a", "\n", " d e a ", "b b", "abc def", "\n\n", " "}
	j := world.Job{Program: programs[r.Intn(len(programs))], Output: "/out-" + name, Parts: 1 + r.Intn(4), Split: 1 + r.Intn(20), Spill: 1 + r.Intn(5)}
	var acts []world.Act
	tasks := j.Parts
	for i := range r.Intn(3) {
		path := "/in-" + name + strconv.Itoa(i)
		acts = append(acts, create(path))
		size := 0
		for range r.Intn(5) {
			piece := lines[r.Intn(len(lines))]
			piece = piece[:min(len(piece), block)]
			acts = append(acts, add(path, piece))
			size += len(piece)
		}
		acts = append(acts, shut(path))
		j.Inputs = append(j.Inputs, path)
		tasks += len(splits.Plan(size, j.Split))
	}
	acts = append(acts, submit(name, j))
	for range r.Intn(4) {
		acts = append(acts, status(name), read(j.Output+"/part-0"))
	}
	return acts, j, tasks
}

// P25.7 and P25.6, P5 and P6: whatever the choices were, right jobs succeed in the rounds behind them, and their outputs come at once and whole.
func TestRightJobs(t *testing.T) {
	succeeded := 0
	for seed := range int64(300) {
		s, jobs := scriptOfJobs(rand.New(rand.NewSource(seed)))
		o := run(t, s)
		texts := textsOfSubmitted(t, o, jobs)
		p := wantSteady(t, o, jobs, texts)
		for name := range texts {
			wantState(t, p, name, world.Succeeded, 0)
			succeeded++
		}
		if t.Failed() {
			t.Fatalf("seed %d", seed)
		}
	}
	if succeeded < 500 {
		t.Errorf("%d jobs have succeeded", succeeded)
	}
}

// scriptOfJobs is a script with right jobs and any choices, and as many rounds as the greatest of the jobs may take; and the jobs by their names.
func scriptOfJobs(r *rand.Rand) (world.Script, map[string]world.Job) {
	s := world.Script{Nodes: 1 + r.Intn(5), Replicas: 1 + r.Intn(3), Block: 1 + r.Intn(30), Room: plenty}
	s.Choices = anyChoices(r, []int{0, 300, 2000, 6000}[r.Intn(4)])
	jobs := map[string]world.Job{}
	most := 0
	for k := range 1 + r.Intn(3) {
		name := "job" + strconv.Itoa(k)
		acts, j, tasks := rightJob(r, name, s.Block)
		s.Acts = append(s.Acts, acts)
		jobs[name] = j
		most = max(most, tasks)
	}
	s.Rounds = 600 + 150*most
	return s, jobs
}

// P25.6 where bits turn: an output is absent or whole all the same; a job whose data is lost doesn't fail, for it may be found again.
func TestJobsWhereBitsTurn(t *testing.T) {
	succeeded, running := 0, 0
	for seed := range int64(100) {
		s, jobs := scriptOfJobs(rand.New(rand.NewSource(seed)))
		s.Flips, s.Rounds = true, 600
		r := rand.New(rand.NewSource(seed))
		for range r.Intn(500) {
			s.Choices = append(s.Choices, 63+64*(3+4*r.Intn(1<<20))) // a bit turns
			s.Choices = append(s.Choices, anyChoices(r, 20)...)
		}
		o := run(t, s)
		texts := textsOfSubmitted(t, o, jobs)
		p := wantSteady(t, o, jobs, texts)
		for name := range texts {
			switch state, code := p.state(name); state {
			case world.Succeeded:
				succeeded++
			case world.Running:
				running++
			default:
				t.Errorf("seed %d: job %s: %d %d", seed, name, state, code)
			}
		}
		if t.Failed() {
			t.Fatalf("seed %d", seed)
		}
	}
	if succeeded == 0 || running == 0 {
		t.Errorf("%d jobs have succeeded, %d run", succeeded, running)
	}
}

// textsOfSubmitted: of each job that was submitted, and whose inputs were closed then, the texts of its parts; the others are taken out. (A client that has given up a Close or an Append goes on all the same.)
func textsOfSubmitted(t *testing.T, o world.Outcome, jobs map[string]world.Job) map[string][]string {
	t.Helper()
	texts := map[string][]string{}
	replay(t, o, func(p past, made int) {
		if made == 0 || o.Changes[made-1].Op.Kind != tree.Rename || o.Changes[made-1].Client > api.MaxClients {
			return
		}
		name := strings.TrimPrefix(o.Changes[made-1].Op.To, "/jobs/")
		var inputs []string
		for _, path := range jobs[name].Inputs {
			data, closed := p.data(path)
			if !closed {
				return
			}
			inputs = append(inputs, data)
		}
		texts[name] = textsOf(t, jobs[name], inputs...)
	})
	for name := range jobs {
		if _, submitted := texts[name]; !submitted {
			delete(jobs, name)
		}
	}
	return texts
}

// P25.7: as much as the words allow for, on one node and on all.
func TestRightJobsOfSizes(t *testing.T) {
	words := strings.Repeat("ab cd ef gh\n", 8)
	for _, nodes := range []int{1, api.MaxData} {
		for _, w := range []struct{ parts, split, pieces int }{{1, 1, 1}, {api.MaxParts, 1000, 1}, {1, 1000, 10}, {7, 5, 3}} {
			j := count("/out", "/f", "/f")
			j.Parts, j.Split = w.parts, w.split
			var pieces []string
			for range w.pieces {
				pieces = append(pieces, words)
			}
			acts := append(file("/f", pieces...), submit("w", j))
			data := strings.Repeat(words, w.pieces)
			s := settled(2*len(splits.Plan(len(data), w.split))+w.parts, acts...)
			s.Nodes, s.Block = nodes, len(words)
			o := run(t, s)
			p := wantSteady(t, o, map[string]world.Job{"w": j}, map[string][]string{"w": textsOf(t, j, data, data)})
			wantState(t, p, "w", world.Succeeded, 0)
		}
	}
}

// Several jobs at a time: each has the rounds that it may take, whatever the others do.
func TestManyJobs(t *testing.T) {
	s := settled(2)
	jobs, texts := map[string]world.Job{}, map[string][]string{}
	s.Acts = nil
	for k := range api.MaxClients {
		input := "/in" + strconv.Itoa(k)
		acts := file(input, "a b a\n")
		for i := range 4 {
			name := "w" + strconv.Itoa(k) + strconv.Itoa(i)
			jobs[name] = count("/out-"+name, input)
			j := jobs[name]
			j.Split = 100
			jobs[name] = j
			texts[name] = textsOf(t, j, "a b a\n")
			acts = append(acts, submit(name, j))
		}
		s.Acts = append(s.Acts, acts)
	}
	p := wantSteady(t, run(t, s), jobs, texts)
	for name := range jobs {
		wantState(t, p, name, world.Succeeded, 0)
	}
}

// Two jobs that want the same output: one has it, the other one fails.
func TestOneOutputOnce(t *testing.T) {
	s := settled(2, append(file("/f", "a\n"), submit("v", count("/out", "/f")), submit("w", count("/out", "/f")))...)
	p := end(t, run(t, s))
	wantState(t, p, "v", world.Succeeded, 0)
	wantState(t, p, "w", world.Failed, api.ErrOutput)
	wantOutput(t, p, "/out", []string{"a\t1\n"})
}

// An output that would be taken for something of a job, its own or another one: it can't be there.
func TestOutputInAJob(t *testing.T) {
	for _, name := range []string{"out", "trash", "ready", "token", "failed-1", "out/x", "trash/x/y"} {
		for _, of := range []string{"v", "w", "none"} {
			s := settled(8, append(file("/f", "a\n"), submit("w", count("/jobs/"+of+"/"+name, "/f")), submit("v", count("/out", "/f")))...)
			o := run(t, s)
			p := wantSteady(t, o, map[string]world.Job{"v": count("/out", "/f")}, map[string][]string{"v": {"a\t1\n"}})
			wantState(t, p, "v", world.Succeeded, 0)
			wantState(t, p, "w", world.Failed, api.ErrOutput)
		}
	}
	for _, output := range []string{"/jobs/w/result", "/jobs/x", "/ready", "/a/out"} {
		s := settled(8, append(file("/f", "a\n"), mkdir("/a"), submit("w", count(output, "/f")))...)
		p := end(t, run(t, s))
		wantState(t, p, "w", world.Succeeded, 0)
		wantOutput(t, p, output, []string{"a\t1\n"})
	}
}

// A job's name that is taken, or none; and what was laid aside doesn't stay.
func TestSubmit(t *testing.T) {
	s := settled(2, append(file("/f", "a\n"), submit("w", count("/out", "/f")), submit("w", count("/out2", "/f")), submit("", count("/out2", "/f")), submit("a/b", count("/out2", "/f")), submit("w/x", count("/out2", "/f")), list("/jobs"))...)
	o := run(t, s)
	wantCodes(t, o, api.OK, api.OK, api.OK, api.OK, api.ErrExists, api.ErrPath, api.ErrNoEnt, api.OK, api.OK)
	wantNames(t, o.Calls[8], "w")
	for i, c := range o.Calls[3:8] {
		if c.Op.Kind != tree.Rename || !strings.HasPrefix(c.Op.Path, "/jobs/.") || c.Op.To != "/jobs/"+s.Acts[0][3+i].Path {
			t.Errorf("%+v", c.Op)
		}
	}
	for _, c := range o.Changes { // at the moment when it gets its name a job has a spec and a token
		if c.Op.To == "/jobs/w" && c.Op.Path != o.Calls[3].Op.Path {
			t.Errorf("%+v", c.Op)
		}
	}
	replay(t, o, func(p past, made int) {
		if made > 0 && o.Changes[made-1].Op.To == "/jobs/w" {
			names, _ := p.List("/jobs/w")
			if !slices.Equal(names, []string{"spec", "token"}) {
				t.Errorf("%q", names)
			}
		}
	})
	wantState(t, end(t, o), "w", world.Succeeded, 0)
}

// A job can be submitted under a name again when the one of that name is gone, wherever that one was.
func TestSubmitAgain(t *testing.T) {
	for waits := range 40 {
		first, second := count("/out", "/f"), count("/out2", "/f")
		second.Program, second.Parts = `map { emit value, value; } reduce { emit key, text(count(values)); }`, 2
		acts := append(file("/f", "a b\n"), submit("w", first))
		for range waits {
			acts = append(acts, list("/"))
		}
		acts = append(acts, remove("/jobs/w"), submit("w", second))
		o := run(t, settled(3, acts...))
		p := end(t, o)
		if code := o.Calls[len(acts)-1].Code; code != api.OK {
			t.Errorf("%d waits: submitted: %d", waits, code)
		}
		wantState(t, p, "w", world.Succeeded, 0)
		wantOutput(t, p, "/out2", textsOf(t, second, "a b\n"))
	}
}

// Whoever takes away the directory of all jobs takes away the jobs; it is made again.
func TestJobsAreTakenAway(t *testing.T) {
	s := settled(3, append(file("/f", "a b\n"), submit("v", count("/out", "/f")), remove("/jobs"), submit("w", count("/out", "/f")), list("/jobs"))...)
	o := run(t, s)
	wantCodes(t, o, api.OK, api.OK, api.OK, api.OK, api.OK, api.OK, api.OK)
	wantState(t, end(t, o), "w", world.Succeeded, 0)
}

// What is laid by hand where jobs stand: the master takes it as it is.
func TestJobsByHand(t *testing.T) {
	acts := []world.Act{mkdir("/jobs/a"), create("/jobs/a/token"), shut("/jobs/a/token"), mkdir("/jobs/b"), create("/jobs/b/spec"), add("/jobs/b/spec", "what is this"), shut("/jobs/b/spec"), create("/jobs/b/token"), shut("/jobs/b/token"),
		create("/jobs/c"), shut("/jobs/c"), mkdir("/jobs/d"), mkdir("/jobs/d/ready"), mkdir("/jobs/d/out"), mkdir("/jobs/e"), mkdir("/jobs/e/ready"), mkdir("/jobs/e/out"), mkdir("/jobs/e/trash")}
	s := settled(3, append(acts, append(file("/f", "a b\n"), submit("w", count("/out", "/f")))...)...)
	p := end(t, run(t, s))
	for name, code := range map[string]api.Errno{"a": api.ErrProgram, "b": api.ErrProgram, "d": api.ErrOutput, "e": api.ErrOutput} {
		wantState(t, p, name, world.Failed, code)
	}
	wantState(t, p, "w", world.Succeeded, 0)
}
