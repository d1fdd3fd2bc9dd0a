package world

import (
	"strings"

	"mahout/api"
	"mahout/audit"
	"mahout/tree"
)

// change is a change of the namespace, and what the world knows of it beside the auditor.
type change struct {
	audit.Change
	call int // the number of the client's call in which it was made
	size int // the bytes of its record
}

// ledger has all changes that the name node has made and not lost, in their order.
type ledger struct {
	changes []change
	lasting int // how many of them last
}

func (l *ledger) count() int {
	return len(l.changes)
}

func (l *ledger) add(c change) {
	l.changes = append(l.changes, c)
}

// settle: all of them last.
func (l *ledger) settle() {
	l.lasting = len(l.changes)
}

// crash: the name node's disk has crashed. There each change that doesn't last is one append, its record.
func (l *ledger) crash(keep, tear int) {
	kept := l.lasting + keep
	if kept < len(l.changes) && tear >= l.changes[kept].size { // torn behind its end
		kept++
	}
	l.changes = l.changes[:kept]
	l.settle()
}

// audited: the changes as the auditor wants them.
func (l *ledger) audited() []audit.Change {
	list := make([]audit.Change, len(l.changes))
	for i, c := range l.changes {
		c.Op, c.Data = ownTexts(c.Op), strings.Clone(c.Data)
		list[i] = c.Change
	}
	return list
}

// asked names a client's call.
type asked struct {
	client, call int
}

// places: where in the list the change of each call stands.
func (l *ledger) places() map[asked]int {
	places := make(map[asked]int, len(l.changes))
	for i, c := range l.changes {
		places[asked{c.Client, c.call}] = i
	}
	return places
}

// ownTexts: the same op, with texts of its own.
func ownTexts(op tree.Op) tree.Op {
	op.Path, op.To = strings.Clone(op.Path), strings.Clone(op.To)
	return op
}

// call is what a client did, and the number of its call that changes something; 0, where there is none yet.
type call struct {
	audit.Call
	number int
}

// neverMade is the At of a write of which nothing came.
const neverMade = -1

// auditedCalls: the calls as the auditor wants them.
func (l *ledger) auditedCalls(calls []*call) []audit.Call {
	places := l.places()
	list := make([]audit.Call, len(calls))
	for i, c := range calls {
		one := c.Call
		if one.Kind == audit.Write && (!one.Done || one.Code == api.OK) {
			one.At = placeOf(places, asked{one.Client, c.number})
		}
		one.Op, one.Data = ownTexts(one.Op), strings.Clone(one.Data)
		list[i] = one
	}
	return list
}

func placeOf(places map[asked]int, a asked) int {
	if i, made := places[a]; made {
		return i
	}
	return neverMade
}
