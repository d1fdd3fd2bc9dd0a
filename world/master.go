package world

import (
	"math"
	"slices"

	"mahout/api"
	"mahout/attempts"
	"mahout/plan"
	"mahout/record"
	"mahout/rpc"
	"mahout/tree"
	"mahout/where"
)

// master is the node that has jobs done. All that must outlive it stands in the jobs' directories.
type master struct {
	agent
	desk    rpc.Desk       // of the workers' polls
	mates   map[int]*mate  // the workers, by their nodes
	idle    []poll         // in the order in which they came
	jobs    []*job         // those that run, in the order of their names
	tickets map[int]ticket // those of jobs that run
	scanned int            // how many changes were made ahead of the last look at all jobs
	passes  int
}

// mate is what is known of a worker.
type mate struct {
	boot  int
	given int // the ticket of the task that it has; 0: none
}

// poll is a worker that waits for a task.
type poll struct {
	node, call int
	at         complex128
}

// ticket is an attempt of a job's task.
type ticket struct {
	job           *job
	board         *attempts.Board // a job that is begun anew has another one
	task, attempt int
}

func newMaster(w *world) *master {
	m := &master{
		agent:   newAgent(w, masterNode),
		mates:   map[int]*mate{},
		tickets: map[int]ticket{},
		scanned: -1,
	}
	m.start(m.loop)
	return m
}

func (m *master) take(from int, message record.Message) {
	if message.Kind == record.Poll {
		m.receive(message)
		return
	}
	m.agent.take(from, message)
}

func (m *master) turn() {
	m.agent.turn()
	m.assign()
}

// loop goes through all jobs again and again.
//
// What it asks first is a change: once that is answered, no letter of an earlier boot is taken any more, so that what is seen from then on is changed by this boot alone.
func (m *master) loop() {
	for heard := false; !heard; {
		_, heard = m.change(tree.Op{Kind: tree.Mkdir, Path: jobsDirectory})
	}
	for {
		m.scan()
		for _, j := range slices.Clone(m.jobs) {
			j.advance()
		}
		m.pause(m.pace())
	}
}

// pace: how long there is nothing to do for the loop.
func (m *master) pace() int {
	if len(m.jobs) == 0 {
		return shortPause
	}
	return 1
}

// scan looks at all jobs, if anything has changed since it did so.
func (m *master) scan() {
	t, heard := m.query(namesIn(jobsDirectory))
	switch {
	case !heard || t.at == m.scanned:
		return
	case t.code == api.ErrNoEnt:
		if _, heard := m.change(tree.Op{Kind: tree.Mkdir, Path: jobsDirectory}); !heard {
			return
		}
	}
	names := slices.DeleteFunc(slices.Clone(t.names), isAside)
	var requests []request
	for _, name := range names {
		directory := jobDirectory(name)
		requests = append(requests, request{headNode, namesIn(directory)}, request{headNode, lookAt(below(directory, specName))})
	}
	answers := m.gather(shortWait, requests...)
	var running []*job
	for i, name := range names {
		listed, is := toldBy(answers[2*i])
		spec, also := toldBy(answers[2*i+1])
		if !is || !also {
			return
		}
		if state, _ := StateOf(listed.names); state == Running {
			running = append(running, m.jobOf(name, listed.names, infoOf(spec)))
		}
	}
	m.jobs, m.scanned = running, t.at
	m.forget()
}

// jobOf: the job of this name, as far as it is known; a job of the same name with another spec is another one.
func (m *master) jobOf(name string, names []string, spec info) *job {
	for _, j := range m.jobs {
		if j.name == name && slices.Equal(j.spec.pieces, spec.pieces) {
			j.names, j.spec = names, spec
			return j
		}
	}
	return &job{m: m, name: name, names: names, spec: spec}
}

// forget drops the tickets of jobs that don't run any more.
func (m *master) forget() {
	for number, t := range m.tickets {
		if !slices.Contains(m.jobs, t.job) {
			delete(m.tickets, number)
		}
	}
}

// receive takes a worker's poll, each once.
func (m *master) receive(p record.Message) {
	verdict, reply := m.desk.Ask(p.Client, p.Call)
	switch verdict {
	case rpc.Done:
		m.w.post(masterNode, p.Client, reply)
	case rpc.New:
		m.hear(p)
		at, _ := where.Spot(p.N[1], p.N[2])
		m.idle = slices.DeleteFunc(m.idle, func(other poll) bool { return other.node == p.Client })
		m.idle = append(m.idle, poll{p.Client, p.Call, at})
	}
}

// hear takes a worker's report. Whoever polls has nothing to do: so what it was given and doesn't report is lost.
func (m *master) hear(p record.Message) {
	known := m.mates[p.Client]
	if known == nil || known.boot != p.N[0] {
		m.gone(p.Client)
		known = &mate{boot: p.N[0]}
		m.mates[p.Client] = known
	}
	for n := p.N[3:]; len(n) > 0; n = n[4:] {
		m.note(n[0], n[1])
	}
	if known.given != 0 {
		m.note(known.given, attempts.Failed)
		known.given = 0
	}
}

// gone: a node is in another boot: it has nothing any more of what it did.
func (m *master) gone(node int) {
	for _, j := range m.jobs {
		j.gone(node)
	}
}

// note takes how an attempt went.
func (m *master) note(number, how int) {
	t := m.tickets[number] // of one that isn't known there is no board, which takes no report
	if how == missing {
		t.board.Lost(t.task, t.attempt)
		return
	}
	t.board.Report(t.task, t.attempt, how)
}

// assign gives tasks to the workers that wait.
func (m *master) assign() {
	m.idle = slices.DeleteFunc(m.idle, m.give)
}

// give gives a worker the task whose data is nearest; false, where there is none to be had.
func (m *master) give(p poll) bool {
	var tasks []plan.Task
	var tickets []ticket
	for i := range m.jobs {
		j := m.jobs[(i+m.passes)%len(m.jobs)] // each is the first one in its turn, so that none waits for ever behind others
		for _, task := range j.ready(p.node) {
			tasks = append(tasks, plan.Task{ID: len(tasks), Holders: j.near(task)})
			tickets = append(tickets, ticket{job: j, board: j.board, task: task})
		}
	}
	i := plan.Pick(tasks, p.at)
	if i < 0 {
		return false
	}
	m.passes++
	m.hand(p, tickets[i])
	return true
}

// hand begins an attempt of a task on a worker's node.
func (m *master) hand(p poll, t ticket) {
	t.attempt = t.board.Start(t.task, p.node, m.w.now)
	number := m.w.nextNumber(masterNode)
	m.tickets[number] = t
	t.job.tickets[t.task] = append(t.job.tickets[t.task], number)
	m.mates[p.node].given = number
	task := t.job.message(t.task, number, m.oldest())
	task.Client, task.Call = p.node, p.call
	reply := record.Encode(task)
	m.desk.Reply(p.node, p.call, reply)
	m.w.post(masterNode, p.node, reply)
}

// oldest: the oldest ticket of a job that runs.
func (m *master) oldest() int {
	oldest := math.MaxInt
	for number := range m.tickets {
		oldest = min(oldest, number)
	}
	return oldest
}
