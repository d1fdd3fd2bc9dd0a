package world

import (
	"mahout/api"
	"mahout/record"
	"mahout/rpc"
	"mahout/tree"
)

// agent is a process that asks other nodes: a client, the master, a worker. What is sent to its node comes to it as mail.
type agent struct {
	w          *world
	number     int                      // of its node, and its own as a client
	calls      *rpc.Caller              // when to ask again, and when to give up
	headBoot   int                      // of the name node, as far as it is known here
	own        func(b api.Block) string // what its node itself holds of a block; nil, where that is nothing
	misses     int                      // how often data nodes were asked for blocks in vain
	mail       []record.Message
	wake       int // there is nothing to do sooner, unless mail comes
	rest       func()
	pull, stop func()
}

func newAgent(w *world, number int) agent {
	return agent{
		w:        w,
		number:   number,
		calls:    rpc.NewCaller(askAgain, giveUp),
		headBoot: 1,
	}
}

// start lays the process ready; it begins with its first turn.
func (a *agent) start(body func()) {
	a.pull, a.stop = coroutine(func(rest func()) {
		a.rest = rest
		body()
	})
}

func (a *agent) turn() {
	if len(a.mail) > 0 || a.w.now >= a.wake {
		a.pull()
	}
}

func (a *agent) halt() {
	a.stop()
}

func (a *agent) take(_ int, m record.Message) {
	if m.Client == a.number {
		a.mail = append(a.mail, m)
	}
}

// open: the mail that has come.
func (a *agent) open() []record.Message {
	mail := a.mail
	a.mail = nil
	return mail
}

// wait rests till mail comes, or till a moment.
func (a *agent) wait(until int) {
	a.wake = until
	a.rest()
}

// pause rests for some ticks; what comes meanwhile is too late for whatever was asked.
func (a *agent) pause(ticks int) {
	for until := a.w.now + ticks; a.w.now < until; {
		a.wait(until)
		a.open()
	}
}

// begin begins the next call; its number, which is greater than those of all that any boot has begun.
func (a *agent) begin() int {
	a.calls.Start(a.w.now)
	return a.w.nextNumber(a.number)
}

// request is a message to a node that wants an answer.
type request struct {
	to int
	record.Message
}

// gather sends requests, each a call of its own, and waits for their answers; where none has come in time the answer has no Kind.
func (a *agent) gather(within int, requests ...request) []record.Message {
	answers := make([]record.Message, len(requests))
	first := 0
	for i := range requests {
		number := a.begin()
		requests[i].Client, requests[i].Call = a.number, number
		first = number - i
	}
	sent, end, left := a.w.now, a.w.now+within, len(requests)
	a.post(requests, answers)
	for left > 0 && a.w.now < end {
		a.wait(min(end, sent+askAgain))
		for _, m := range a.open() {
			if i := m.Call - first; i >= 0 && i < len(answers) && answers[i].Kind == 0 {
				answers[i] = m
				left--
			}
		}
		if a.calls.Tick(a.w.now) == rpc.Again {
			sent = a.w.now
			a.post(requests, answers)
		}
	}
	return answers
}

// post sends the requests that aren't answered.
func (a *agent) post(requests []request, answers []record.Message) {
	for i, r := range requests {
		if answers[i].Kind == 0 {
			a.w.send(a.number, r.to, r.Message)
		}
	}
}

// told is an answer of the name node, and how many changes were made ahead of it.
type told struct {
	code     api.Errno
	boot, at int
	numbers  []int
	names    []string
}

// toldBy: what an answer says; false, where it is none.
func toldBy(m record.Message) (told, bool) {
	last := len(m.N) - 1
	if m.Kind != record.Answer || last < 2 {
		return told{}, false
	}
	return told{api.Errno(m.N[0]), m.N[1], m.N[last], m.N[2:last], m.T}, true
}

// change has the name node make a change; false, where it was given up, so that it may be made yet.
func (a *agent) change(op tree.Op) (told, bool) {
	return a.changeAs(a.begin(), op)
}

// changeAs is change, with the number of a call that was just begun.
//
// From when on it is asked of a boot of the name node no answer of an earlier boot counts any more: what that one refused may be done now.
func (a *agent) changeAs(number int, op tree.Op) (told, bool) {
	op.Client, op.Path, op.To = a.number, pathOrNone(op.Path), pathOrNone(op.To)
	for ask := true; ; {
		if ask {
			a.w.send(a.number, headNode, record.Of(a.number, number, a.headBoot, op))
		}
		a.wait(a.w.now + 1)
		ask = false
		for _, m := range a.open() {
			t, is := toldBy(m)
			switch {
			case !is || m.Call != number:
			case t.boot > a.headBoot:
				a.headBoot, ask = t.boot, true
			case t.boot == a.headBoot && t.code != api.ErrStale:
				return t, true
			}
		}
		switch a.calls.Tick(a.w.now) {
		case rpc.Again:
			ask = true
		case rpc.Lost:
			return told{}, false
		}
	}
}

// pathOrNone: a text that is a path just where the other one is, and not too long for a letter.
func pathOrNone(path string) string {
	return path[:min(len(path), api.MaxPath+1)]
}

// query asks the name node; false, where no answer came.
func (a *agent) query(m record.Message) (told, bool) {
	return toldBy(a.gather(giveUp, request{headNode, m})[0])
}

func lookAt(path string) record.Message {
	return record.Message{Kind: record.Look, T: []string{pathOrNone(path)}}
}

func namesIn(path string) record.Message {
	return record.Message{Kind: record.Names, T: []string{pathOrNone(path)}}
}

// info is what the name node told of a path.
type info struct {
	told
	dir, open bool
	holder    int
	pieces    []api.Piece
}

// isClosedFile: is there a file that nobody writes any more?
func (i info) isClosedFile() bool {
	return i.code == api.OK && !i.dir && !i.open
}

// infoOf: what an answer to a Look says.
func infoOf(t told) info {
	i := info{told: t}
	n := t.numbers
	if t.code != api.OK || len(n) < 6 {
		return i
	}
	i.dir, i.open, i.holder = n[0] == 1, n[1] == 1, n[2]
	i.pieces = piecesOf(n[6:])
	return i
}

// piecesOf: the pieces that stand in a list of numbers.
func piecesOf(n []int) []api.Piece {
	pieces := make([]api.Piece, 0, len(n)/5)
	for ; len(n) >= 5; n = n[5:] {
		pieces = append(pieces, api.Piece{Block: api.Block{Client: n[0], Call: n[1], Try: n[2]}, Size: n[3], Sum: uint32(n[4])})
	}
	return pieces
}

// numbersOf: pieces as a list of numbers.
func numbersOf(pieces []api.Piece) []int {
	var n []int
	for _, p := range pieces {
		n = append(n, p.Block.Client, p.Block.Call, p.Block.Try, p.Size, int(p.Sum))
	}
	return n
}

func (a *agent) look(path string) (info, bool) {
	t, heard := a.query(lookAt(path))
	return infoOf(t), heard
}
