package world

import (
	"math/rand"
	"slices"
	"testing"

	"mahout/api"
	"mahout/audit"
	"mahout/crc"
	"mahout/local"
	"mahout/record"
	"mahout/tree"
)

// play is a run without choices, in whose rounds a test has a hand.
type play struct {
	*world
	hold func(from, to int, m record.Message) bool // which letters don't arrive for now; nil: all arrive
	hand func(round int)                           // what is done ahead of a round; nil: nothing
}

// run plays so many rounds; what comes of it.
func (p *play) run(rounds int) Outcome {
	defer p.close()
	for round := range rounds {
		if p.hand != nil {
			p.hand(round)
		}
		p.round()
	}
	return p.outcome()
}

func (p *play) round() {
	p.step++
	p.now++
	k := 0
	for _, letter := range p.net.Flying() {
		m, _ := record.Decode(letter.Body)
		if p.hold != nil && p.hold(letter.From, letter.To, m) || p.net.Parted(letter.From, letter.To) {
			k++
			continue
		}
		p.deliver(k)
	}
	for _, node := range p.all {
		p.turn(node)
	}
}

// strike crashes a node; its disk keeps and tears something.
func (p *play) strike(node int, keeps int) {
	d := draw(keeps)
	p.crash(node, &d)
}

const counts = `map { each w in value by " " { emit w, "1"; } } reduce { emit key, text(sum(values)); }`

// oneJob is a script with a job of two maps and two parts.
func oneJob(nodes int) Script {
	return Script{Nodes: nodes, Replicas: 2, Block: 100, Room: 1 << 20, Acts: [][]Act{{
		{Kind: Create, Path: "/f"}, {Kind: Append, Path: "/f", Data: "a b\nb"}, {Kind: Append, Path: "/f", Data: " c\nd\n"}, {Kind: Close, Path: "/f"},
		{Kind: Submit, Path: "w", Job: Job{Program: counts, Output: "/out", Inputs: []string{"/f"}, Parts: 2, Split: 5, Spill: 2}},
		{Kind: Status, Path: "w"}, {Kind: Read, Path: "/f"},
	}}}
}

// wantRight: the auditor finds nothing.
func wantRight(t *testing.T, what string, o Outcome) {
	t.Helper()
	if v := audit.Check(o.Changes, o.Calls); v != (audit.Verdict{}) || !o.Serving {
		t.Errorf("%s: serving %v, the auditor: %v", what, o.Serving, v)
	}
}

// textOf: the bytes of a file.
func textOf(namespace *tree.Tree, texts map[api.Block]string, path string) string {
	info, _ := namespace.Stat(path)
	text := ""
	for _, p := range info.Pieces {
		text += texts[p.Block]
	}
	return text
}

// wantWhole: the auditor finds nothing, the job has succeeded, if it was submitted, and has done so once; at every moment its output was absent or whole.
func wantWhole(t *testing.T, what string, o Outcome) {
	t.Helper()
	wantRight(t, what, o)
	namespace, texts := tree.New(), map[api.Block]string{}
	state, submitted := Absent, false
	var want []string
	for i, c := range o.Changes {
		texts[c.Op.Piece.Block] = c.Data
		if code := namespace.Apply(c.Op); code != api.OK {
			t.Fatalf("%s: change %d: %d", what, i, code)
		}
		if c.Op.To == "/jobs/w" {
			submitted = true
			want, _ = local.Run(local.Job{Program: counts, Parts: 2, Split: 5, Spill: 2}, textOf(namespace, texts, "/f"))
		}
		names, _ := namespace.List("/jobs/w")
		now, _ := StateOf(names)
		if state == Succeeded && now != Succeeded || now == Failed {
			t.Errorf("%s: change %d: the job is %d, was %d", what, i, now, state)
		}
		state = now
		if there, code := namespace.List("/out"); (code == api.OK) != (state == Succeeded) || code == api.OK && !slices.Equal(there, []string{"_SUCCESS", "part-0", "part-1"}) {
			t.Errorf("%s: change %d: the job is %d, and its output: %d %q", what, i, now, code, there)
		}
	}
	if !submitted {
		return
	}
	if state != Succeeded {
		names, _ := namespace.List("/jobs/w")
		t.Errorf("%s: the job is %d at the end: %q", what, state, names)
		return
	}
	for k, text := range want {
		if got := textOf(namespace, texts, "/out/"+partName(k)); got != text {
			t.Errorf("%s: part %d is %q, not %q", what, k, got, text)
		}
	}
}

// Which letters of a call are held up: its requests, its answers, its requests and those of all later calls, or of those the ones that change something.
const (
	requests = iota
	answers
	allRequests
	allChanges
	kindsOfLate
)

// Whatever call of whomever is held up till it has long been given up, or its answer is: it is done once or never, and the job succeeds.
func TestLateLetters(t *testing.T) {
	script := oneJob(2)
	for _, node := range []int{1, masterNode, firstData, firstData + 1} {
		for call := 1; call <= 50; call++ {
			for kind := range kindsOfLate {
				p := &play{world: newWorld(script)}
				begun, seen := 0, false
				p.hold = func(from, to int, m record.Message) bool {
					isLater := m.Call > call && (kind == allRequests || kind == allChanges && m.Kind == record.Change)
					if m.Client != node || m.Call != call && !isLater || (to == node) != (kind == answers) || m.Kind == record.Beat {
						return false
					}
					if !seen {
						begun, seen = p.now, true
					}
					return p.now < begun+giveUp+20
				}
				o := p.run(500)
				if node == 1 { // then the job may have no inputs
					wantRight(t, "late letters", o)
				} else {
					wantWhole(t, "late letters", o)
				}
				if t.Failed() {
					t.Fatalf("node %d, call %d, kind %d", node, call, kind)
				}
			}
		}
	}
}

// What an earlier boot of the master, or of a worker, has asked for comes when the next one is at work, or has long done all: it changes nothing of that.
func TestLettersOfAnEarlierBoot(t *testing.T) {
	script := oneJob(2)
	for _, node := range []int{masterNode, firstData, firstData + 1} {
		for call := 1; call <= 50; call++ {
			for _, late := range []int{3, 10, 25, 150} {
				p := &play{world: newWorld(script)}
				last, struck := 0, 0
				p.hold = func(from, to int, m record.Message) bool {
					if from != node || m.Client != node || m.Call < call || m.Kind == record.Beat || last > 0 && m.Call > last {
						return false
					}
					if last == 0 {
						last, struck = p.numbers[node], p.now
					}
					return p.now < struck+late
				}
				p.hand = func(round int) {
					if last > 0 && p.boots[node] == 1 {
						p.strike(node, 0)
						p.raise(node)
					}
				}
				wantWhole(t, "letters of an earlier boot", p.run(450))
				if t.Failed() {
					t.Fatalf("node %d, call %d, late by %d", node, call, late)
				}
			}
		}
	}
}

// Whatever node crashes, whenever, and however soon it comes up again.
func TestCrashAtAnyMoment(t *testing.T) {
	script := oneJob(2)
	for _, node := range []int{headNode, masterNode, firstData, firstData + 1} {
		for moment := range 100 {
			for _, down := range []int{0, 1, 7} {
				p := &play{world: newWorld(script)}
				p.hand = func(round int) {
					if round == moment {
						p.strike(node, moment*17+down)
					}
					if round == moment+down {
						p.raise(node)
					}
				}
				wantWhole(t, "a crash", p.run(400))
				if t.Failed() {
					t.Fatalf("node %d, round %d, for %d rounds", node, moment, down)
				}
			}
		}
	}
}

// A crash behind each letter and each turn, not between rounds alone: what was made and doesn't last may be lost then.
func TestCrashWithinRounds(t *testing.T) {
	script := oneJob(2)
	for moment := range 120 {
		for kind := range 3 {
			p := &play{world: newWorld(script)}
			p.hold = func(from, to int, m record.Message) bool {
				if p.now != moment || to != headNode || m.Kind != record.Change {
					return false
				}
				return kind == 1 // then it comes to the next boot
			}
			p.hand = func(round int) {
				if round != moment {
					return
				}
				for range p.underWay { // all that arrives ahead of the name node's turn
					p.deliver(0)
				}
				p.strike(headNode, moment*7+kind)
				p.raise(headNode)
			}
			wantWhole(t, "a crash", p.run(400))
			if t.Failed() {
				t.Fatalf("round %d, kind %d", moment, kind)
			}
		}
	}
}

// Two crashes, and ways that are cut for a time.
func TestTroubles(t *testing.T) {
	for seed := range int64(300) {
		r := rand.New(rand.NewSource(seed))
		p := &play{world: newWorld(oneJob(1 + r.Intn(3)))}
		nodes, begins, ends, keeps := [3]int{}, [3]int{}, [3]int{}, r.Int()
		for i := range nodes {
			nodes[i] = p.servers[r.Intn(len(p.servers))]
			begins[i] = r.Intn(120)
			ends[i] = begins[i] + 1 + r.Intn(20)
		}
		p.hand = func(round int) {
			for i, node := range nodes {
				switch {
				case round == begins[i] && i < 2:
					p.strike(node, keeps>>(8*i)&0xffff)
				case round == begins[i]:
					for _, other := range p.all {
						if (other^keeps)&1 == 0 {
							p.part(node, other)
						}
					}
				case round == ends[i] && i < 2:
					p.raise(node)
				case round == ends[i]:
					for len(p.cuts) > 0 {
						p.mend(0)
					}
				}
			}
			for _, node := range p.servers {
				if round == 150 {
					p.raise(node)
				}
			}
		}
		wantWhole(t, "troubles", p.run(600))
		if t.Failed() {
			t.Fatalf("seed %d", seed)
		}
	}
}

// What an earlier boot of the name node refused doesn't count any more, once a later one may do it.
func TestLateRefusal(t *testing.T) {
	p := &play{world: newWorld(Script{Nodes: 1, Acts: [][]Act{
		{{Kind: Mkdir, Path: "/x"}, {Kind: Create, Path: "/f"}},
		{{Kind: Create, Path: "/f"}, {Kind: Delete, Path: "/f"}},
	}})}
	p.hold = func(from, to int, m record.Message) bool {
		boot := 0
		switch m.Kind {
		case record.Change:
			boot = m.N[len(m.N)-1]
		case record.Answer:
			boot = m.N[1]
		}
		switch {
		case from == 2 && m.Call == 2:
			return p.now < 15
		case to == 1 && m.Call == 2 && boot == 1: // the refusal
			return p.now < 25
		case from == 1 && m.Call == 2 && boot == 2:
			return p.now < 30
		}
		return false
	}
	p.hand = func(round int) {
		if round == 8 {
			p.strike(headNode, 0)
			p.raise(headNode)
		}
	}
	o := p.run(60)
	wantRight(t, "a late refusal", o)
	made := 0
	for _, c := range o.Changes {
		if c.Client == 1 && c.Op.Kind == tree.Create {
			made++
		}
	}
	if c := o.Calls[1]; !c.Done || made != 1 || c.Code != api.OK {
		t.Errorf("made %d times, done %v, code %d", made, c.Done, c.Code)
	}
}

// A file whose holder has gone is closed, also where the name node has been in another boot since.
func TestExpireBehindACrash(t *testing.T) {
	p := &play{world: newWorld(Script{Nodes: 1, Acts: [][]Act{{{Kind: Create, Path: "/f"}}}})}
	p.hand = func(round int) {
		if round == 30 {
			p.strike(headNode, 0)
			p.raise(headNode)
		}
	}
	o := p.run(30 + 2*leaseLength)
	wantRight(t, "an open file", o)
	if last := o.Changes[len(o.Changes)-1]; last.Op.Kind != tree.Expire || last.Op.Path != "/f" || last.Client != 0 || last.Step < leaseLength {
		t.Errorf("%+v", last)
	}
}

// Where the nearest of the nodes that hold a block doesn't answer the others are asked.
func TestReadFromAnotherNode(t *testing.T) {
	script := Script{Nodes: 3, Replicas: 3, Block: 10, Room: 1000, Acts: [][]Act{{{Kind: Create, Path: "/f"}, {Kind: Append, Path: "/f", Data: "abc"}}}}
	for range 20 {
		script.Acts[0] = append(script.Acts[0], Act{Kind: Read, Path: "/f"})
	}
	for hidden := range 7 {
		p := &play{world: newWorld(script)}
		p.hand = func(round int) {
			for i, node := range p.data {
				if round == 20 && hidden>>i&1 == 1 {
					p.part(1, node)
				}
			}
		}
		o := p.run(400)
		wantRight(t, "hidden nodes", o)
		for i, c := range o.Calls[2:] {
			if !c.Done || c.Code != api.OK || c.Data != "abc" {
				t.Errorf("hidden %d: read %d: %v %d", hidden, i, c.Done, c.Code)
			}
		}
	}
}

// polled is a master with a job, and no worker but the test.
func polled(t *testing.T) (*play, *master) {
	t.Helper()
	p := &play{world: newWorld(oneJob(1))}
	m := p.up[masterNode].(*master)
	for len(m.jobs) == 0 || m.jobs[0].board == nil {
		p.round()
		if p.step > 200 {
			t.Fatal("the job doesn't begin")
		}
	}
	p.strike(firstData, 0)
	m.idle = nil
	for number := range m.tickets {
		m.note(number, 2)
	}
	return p, m
}

// poll polls as a worker does; the task, and its ticket, that it gets, -1 where it gets none.
func (p *play) poll(m *master, call, boot int, report ...int) (int, int) {
	last := len(m.tickets)
	m.receive(record.Message{Kind: record.Poll, Client: firstData, Call: call, N: append([]int{boot, 20, 0}, report...)})
	m.assign()
	if len(m.tickets) == last {
		return -1, 0
	}
	return m.tickets[p.numbers[masterNode]].task, p.numbers[masterNode]
}

func wantTask(t *testing.T, task, want int) {
	t.Helper()
	if task != want {
		t.Errorf("task %d, not %d", task, want)
	}
}

// A worker's polls are taken once each, and what it was given and doesn't report is lost.
func TestPolls(t *testing.T) {
	p, m := polled(t)
	defer p.close()
	task, _ := p.poll(m, 1<<30, 9)
	wantTask(t, task, 0)
	task, _ = p.poll(m, 1<<30, 9) // the same letter once more
	wantTask(t, task, -1)
	task, _ = p.poll(m, 1<<30-1, 9)
	wantTask(t, task, -1)
	task, first := p.poll(m, 1<<30+1, 9)
	wantTask(t, task, 0)
	task, second := p.poll(m, 1<<30+2, 9, first, 1, 0, 0)
	wantTask(t, task, 1)
	task, third := p.poll(m, 1<<30+3, 9, second, 1, 0, 0)
	wantTask(t, task, 2)
	task, _ = p.poll(m, 1<<30+4, 9, third, 2, 0, 0, second, missing, 0, 0) // the second map's pairs aren't to be had
	wantTask(t, task, 1)
	task, fourth := p.poll(m, 1<<30+5, 10) // another boot, so nothing is there
	wantTask(t, task, 0)
	task, fifth := p.poll(m, 1<<30+6, 10, fourth, 1, 0, 0)
	wantTask(t, task, 1)
	task, _ = p.poll(m, 1<<30+7, 10, fifth, 1, 0, 0, second, missing, 0, 0) // of an attempt that is lost already
	wantTask(t, task, 2)
}

// Jobs have their turns.
func TestEachJobInItsTurn(t *testing.T) {
	p, m := polled(t)
	defer p.close()
	other := *m.jobs[0]
	other.name = "x"
	m.jobs = append(m.jobs, &other)
	var last *job
	for call := range 4 {
		_, number := p.poll(m, 1<<30+call, 9)
		if now := m.tickets[number].job; now == last {
			t.Errorf("poll %d: %s again", call, now.name)
		} else {
			last = now
		}
	}
}

// A job is taken for another one where its spec is another one: it may have come while nobody looked.
func TestAnotherJobOfThatName(t *testing.T) {
	p, m := polled(t)
	defer p.close()
	was := m.jobs[0]
	if now := m.jobOf("w", []string{"ready"}, was.spec); now != was || !slices.Equal(now.names, []string{"ready"}) {
		t.Error("the same one")
	}
	other := was.spec
	other.pieces = slices.Clone(other.pieces)
	other.pieces[0].Block.Call++
	if now := m.jobOf("w", nil, other); now == was || now.board != nil || now.loaded {
		t.Error("another spec")
	}
	if now := m.jobOf("v", nil, was.spec); now == was || now.name != "v" {
		t.Error("another name")
	}
}

// The token of another job isn't taken for that of one which was there ahead of it, and which the master takes for done.
func TestTokenOfAnotherJob(t *testing.T) {
	script := oneJob(2)
	first := script.Acts[0][4]
	second := first
	first.Job.Output, first.Job.Program, first.Job.Parts = "/elsewhere", `map { emit "no", value; } reduce { emit key, key; }`, 1
	acts := append(script.Acts[0][:4], first)
	for range 15 { // so that it isn't given up to take it away
		acts = append(acts, Act{Kind: List, Path: "/"})
	}
	script.Acts[0] = append(acts, Act{Kind: Delete, Path: "/jobs/w"}, second)
	p := &play{world: newWorld(script)}
	p.hold = func(from, to int, m record.Message) bool {
		isMarked, submitted := false, 0
		for _, c := range p.ledger.changes {
			isMarked = isMarked || c.Op.Kind == tree.Close && c.Op.Path == "/jobs/w/out/_SUCCESS"
			if c.Op.To == "/jobs/w" {
				submitted++
			}
		}
		switch {
		case from == 1 && m.Kind == record.Change && m.N[0] == tree.Delete:
			return !isMarked
		case to == masterNode:
			return isMarked && submitted < 2
		}
		return false
	}
	o := p.run(500)
	wantRight(t, "another job", o)
	if c := o.Calls[20]; !c.Done || c.Code != api.OK {
		t.Fatalf("the first one isn't taken away: %v %d", c.Done, c.Code)
	}
	namespace := tree.New()
	for _, c := range o.Changes {
		namespace.Apply(c.Op)
	}
	names, _ := namespace.List("/jobs/w")
	out, _ := namespace.List("/out")
	if state, _ := StateOf(names); state != Succeeded || len(out) != 3 {
		t.Errorf("%q, %q", names, out)
	}
}

// No boot of a node gives a number that another one has given.
func TestNumbersRise(t *testing.T) {
	p := &play{world: newWorld(Script{})}
	defer p.close()
	for _, node := range []int{masterNode, firstData} {
		last := 0
		for range 5 {
			p.round()
			var a *agent
			switch m := p.up[node].(type) {
			case *master:
				a = &m.agent
			case *holder:
				a = &m.worker.agent
			}
			for range 100 {
				number := a.begin()
				if number <= last {
					t.Fatalf("node %d: %d behind %d", node, number, last)
				}
				last = number
			}
			p.strike(node, 0)
			p.raise(node)
		}
	}
}

// P7: what isn't what a piece should be isn't taken for it.
func TestFits(t *testing.T) {
	piece := api.Piece{Size: 3, Sum: crc.Sum("abc")}
	for data, want := range map[string]bool{"abc": true, "abd": false, "ab": false, "": false, "abcd": false} {
		if fits(data, piece) != want {
			t.Errorf("%q", data)
		}
	}
	piece.Size = 4
	if fits("abc", piece) {
		t.Error("another length")
	}
}

// A data node forgets just what was mapped for older tickets.
func TestForget(t *testing.T) {
	h := holder{outputs: map[int][][]api.Pair{}}
	for ticket := range 10 {
		h.outputs[ticket] = make([][]api.Pair, 2)
	}
	h.forget(4)
	for ticket := range 10 {
		if _, there := h.mapped(ticket, 1); there != (ticket >= 4) {
			t.Errorf("ticket %d: %v", ticket, there)
		}
	}
	for _, part := range []int{-1, 2} {
		if _, there := h.mapped(5, part); there {
			t.Errorf("part %d", part)
		}
	}
}

// Of a data node's reports the last one counts, in whatever order they come.
func TestReports(t *testing.T) {
	p := &play{world: newWorld(Script{Nodes: 1})}
	defer p.close()
	h := p.up[headNode].(*head)
	report := func(number int, calls ...int) {
		m := record.Message{Kind: record.Beat, Client: firstData, N: []int{number}}
		for _, call := range calls {
			m.N = append(m.N, 1, call, 0)
		}
		h.take(firstData, m)
	}
	want := func(calls ...int) {
		t.Helper()
		for call := range 5 {
			held := len(h.blocks.Holders(api.Block{Client: 1, Call: call}, p.now)) > 0
			if held != slices.Contains(calls, call) {
				t.Errorf("block %d: %v", call, held)
			}
		}
	}
	report(7, 1, 2)
	want(1, 2)
	report(6, 3)
	want(1, 2)
	report(8, 3)
	want(3)
	report(-8)
	want(3)
	report(-7) // late
	want(3)
	if p.underWay != 0 {
		t.Error("a whole report is asked for")
	}
	report(-9) // that one is lost
	want(3)
	if p.underWay != 1 {
		t.Error("no whole report is asked for")
	}
	p.now += life
	want()
	report(-7)
	want()
	report(-8)
	want(3)
}
