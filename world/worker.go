package world

import (
	"strings"

	"mahout/api"
	"mahout/attempts"
	"mahout/lang"
	"mahout/local"
	"mahout/record"
	"mahout/splits"
	"mahout/tree"
)

// The kinds of a task: the first number of its message. Behind it stand the task's ticket, the oldest ticket of which what was mapped may still be wanted, and then:
//   - of a map the parts, the spill, the split's beginning and end, and the file's pieces; its text is the program;
//   - of a reduce the part, and for each map the node and the ticket of what it made; its texts are the program and the directory for what it makes.
const (
	mapTask = 1 + iota
	reduceTask
)

// missing is how a reduce reports a map whose pairs aren't to be had; the attempts' own are Good, Failed and Full.
const missing = attempts.Full + 1

// worker is the process on a data node that does tasks, one after the other.
type worker struct {
	agent
	holder *holder
}

func newWorker(w *world, h *holder) *worker {
	k := &worker{agent: newAgent(w, h.number), holder: h}
	k.own = h.held
	k.start(k.loop)
	return k
}

func (k *worker) loop() {
	var report []int
	for {
		task := k.poll(report)
		k.holder.forget(task.N[2])
		report = k.do(task)
	}
}

// poll tells the master how the last task went, and waits for the next one, however long that takes.
func (k *worker) poll(report []int) record.Message {
	at := spotOf(k.number)
	number := k.begin()
	m := record.Message{
		Kind:   record.Poll,
		Client: k.number,
		Call:   number,
		N:      append([]int{k.w.boots[k.number], int(real(at)), int(imag(at))}, report...),
	}
	for {
		k.w.send(k.number, masterNode, m)
		for again := k.w.now + pollAgain; k.w.now < again; {
			k.wait(again)
			for _, answer := range k.open() {
				if answer.Kind == record.Task && answer.Call == number {
					return answer
				}
			}
		}
	}
}

// do does a task; its report.
func (k *worker) do(task record.Message) []int {
	if task.N[0] == mapTask {
		return k.doMap(task)
	}
	return k.doReduce(task)
}

// reportOf: how a task went, as four numbers.
func reportOf(ticket, how int) []int {
	return []int{ticket, how, 0, 0}
}

// doMap maps the records of a split.
func (k *worker) doMap(task record.Message) []int {
	ticket, n := task.N[1], task.N[3:]
	job := local.Job{Program: task.T[0], Parts: n[0], Split: 1, Spill: n[1]}
	p, err := local.Check(job)
	records, read := k.recordsOf(piecesOf(n[4:]), splits.Split{From: n[2], To: n[3]})
	if err != api.OK || !read {
		return reportOf(ticket, attempts.Failed)
	}
	parts := local.Map(p, job, records)
	if haveLong(parts) {
		return reportOf(ticket, attempts.Full)
	}
	k.holder.outputs[ticket] = parts
	return reportOf(ticket, attempts.Good)
}

// haveLong: is there a pair for which no letter has room?
func haveLong(parts [][]api.Pair) bool {
	for _, pairs := range parts {
		for _, p := range pairs {
			if len(p.Key)+len(p.Value) > longestPair {
				return true
			}
		}
	}
	return false
}

// recordsOf: the records of a split of a file that has these pieces; false, where they aren't to be had.
//
// No more is read than is wanted: the byte ahead of the split, which tells whether a line begins with it, the split, and what follows up to the end of its last line.
func (k *worker) recordsOf(pieces []api.Piece, s splits.Split) ([]splits.Record, bool) {
	first, behind := splits.Blocks(sizesOf(pieces), splits.Split{From: max(s.From-1, 0), To: s.To})
	base := sizeOf(pieces[:first])
	within := splits.Split{From: s.From - base, To: s.To - base}
	texts, read := k.fetch(longWait, pieces[first:behind])
	data := strings.Join(texts, "")
	for more := 1; read && behind < len(pieces) && runsOn(data, within); more *= 2 {
		end := min(behind+more, len(pieces))
		texts, read = k.fetch(longWait, pieces[behind:end])
		data += strings.Join(texts, "")
		behind = end
	}
	if !read {
		return nil, false
	}
	records := splits.Records(data, within)
	for i := range records {
		records[i].At += base
	}
	return records, true
}

// runsOn: does a line begin in a split that doesn't end in the data that is there?
func runsOn(data string, s splits.Split) bool {
	if len(splits.Records(data, s)) == 0 {
		return false
	}
	return !strings.Contains(data[min(max(s.To-1, 0), len(data)):], "\n")
}

func sizesOf(pieces []api.Piece) []int {
	sizes := make([]int, len(pieces))
	for i, p := range pieces {
		sizes[i] = p.Size
	}
	return sizes
}

func sizeOf(pieces []api.Piece) int {
	size := 0
	for _, p := range pieces {
		size += p.Size
	}
	return size
}

// doReduce reduces a part, and writes it as a file of its own.
func (k *worker) doReduce(task record.Message) []int {
	ticket, part, sources := task.N[1], task.N[3], task.N[4:]
	p, fault := lang.Parse(task.T[0])
	runs, lost := k.collect(part, sources)
	if fault.Code != api.OK || len(lost) > 0 {
		report := reportOf(ticket, attempts.Failed)
		for _, t := range lost {
			report = append(report, reportOf(t, missing)...)
		}
		return report
	}
	path := partFile(task.T[1], part, ticket)
	code, heard := k.write(path, local.Reduce(p, runs...))
	if heard && code == api.OK {
		return reportOf(ticket, attempts.Good)
	}
	k.change(tree.Op{Kind: tree.Delete, Path: path}) // what there is of it takes room
	if heard && isFull(code) {
		return reportOf(ticket, attempts.Full)
	}
	return reportOf(ticket, attempts.Failed)
}

// isFull: was there no room, on disks, below a directory or in a file?
func isFull(code api.Errno) bool {
	return code == api.ErrFull || code == api.ErrQuota || code == api.ErrLong
}

// source is what one map has made for a part.
type source struct {
	node, ticket int
	pairs        []api.Pair
	whole        bool
}

// collect: of each map the pairs of a part; and the tickets of those that aren't to be had.
func (k *worker) collect(part int, numbers []int) ([][]api.Pair, []int) {
	var sources []*source
	for n := numbers; len(n) > 0; n = n[2:] {
		sources = append(sources, &source{node: n[0], ticket: n[1]})
	}
	var lost []int
	for len(lost) == 0 {
		open := k.openOf(part, sources)
		if len(open) == 0 {
			break
		}
		lost = k.ask(part, open)
	}
	runs := make([][]api.Pair, len(sources))
	for i, s := range sources {
		runs[i] = s.pairs
	}
	return runs, lost
}

// openOf: the sources of which not all is here. What was mapped on this node is.
func (k *worker) openOf(part int, sources []*source) []*source {
	var open []*source
	for _, s := range sources {
		if pairs, there := k.holder.mapped(s.ticket, part); there && s.node == k.number {
			s.pairs, s.whole = pairs, true
		}
		if !s.whole {
			open = append(open, s)
		}
	}
	return open
}

// ask asks the nodes of sources for more of their pairs; the tickets of those that have none.
func (k *worker) ask(part int, open []*source) []int {
	var requests []request
	for _, s := range open {
		m := record.Message{Kind: record.Shuffle, N: []int{s.ticket, part, len(s.pairs), 0}}
		requests = append(requests, request{s.node, m})
	}
	var lost []int
	for i, answer := range k.gather(shortWait, requests...) {
		s := open[i]
		if answer.Kind != record.Pairs || answer.N[0] < 0 {
			lost = append(lost, s.ticket)
			continue
		}
		for t := answer.T; len(t) > 0; t = t[2:] {
			s.pairs = append(s.pairs, api.Pair{Key: t[0], Value: t[1]})
		}
		s.whole = len(s.pairs) >= answer.N[0]
	}
	return lost
}
