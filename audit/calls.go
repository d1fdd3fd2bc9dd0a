package audit

import (
	"cmp"
	"slices"

	"mahout/api"
	"mahout/tree"
)

// neverMade is the At of a write that wasn't answered, and of which nothing came.
const neverMade = -1

// checkCalls: the first of the calls that can't have gone as it says. All changes are right.
func checkCalls(changes []Change, calls []Call) Verdict {
	whys := make([]string, len(calls))
	var asking []int // the numbers of the calls whose answers are to be held against the model
	l := ledger{changes, make([]bool, len(changes))}
	for i, c := range calls {
		why, asks := l.look(c)
		if asks {
			asking = append(asking, i)
		}
		whys[i] = why
	}
	slices.SortFunc(asking, func(a, b int) int { return cmp.Compare(calls[a].At, calls[b].At) }) // so that the model need never go back
	m := newModel(changes)
	for _, i := range asking {
		for m.behind < calls[i].At {
			m.step()
		}
		whys[i] = m.answers(calls[i])
	}
	for i, why := range whys {
		if why != right {
			return Verdict{i, why}
		}
	}
	return Verdict{}
}

// ledger is the list of the changes, where calls are looked up in their order.
type ledger struct {
	changes []Change
	named   []bool // which changes a call has named
}

// look: what is wrong with a call's kind and moment; and, where nothing is, is its answer to be held against the model?
func (l ledger) look(c Call) (string, bool) {
	switch {
	case c.Kind != Write && c.Kind != Read && c.Kind != List:
		return wrongKind, false
	case !c.Done:
		return l.lookUnanswered(c), false
	case c.End < c.Start:
		return wrongSpan, false
	case c.Code == api.ErrTimeout || c.Code == api.ErrUnavailable || c.Code == api.ErrFull:
		return right, false
	case c.Kind == Write && c.Code == api.OK:
		return l.lookMade(c), false
	}
	why := l.lookBetween(c)
	return why, why == right
}

// lookUnanswered: a call that nobody has answered may have been done at any time from its beginning on, or never.
func (l ledger) lookUnanswered(c Call) string {
	if c.Kind != Write || c.At == neverMade {
		return right
	}
	why := l.lookNamed(c)
	if why != right {
		return why
	}
	if l.nameTwice(c.At) {
		return isTwice
	}
	if l.changes[c.At].Step < c.Start {
		return wrongTime
	}
	return right
}

// lookMade: a write that has made a change.
func (l ledger) lookMade(c Call) string {
	why := l.lookNamed(c)
	if why != right {
		return why
	}
	if step := l.changes[c.At].Step; step < c.Start || step > c.End {
		return wrongTime
	}
	if l.nameTwice(c.At) {
		return isTwice
	}
	return right
}

// lookNamed: is there the change that a write names, and is it the one that was asked for?
func (l ledger) lookNamed(c Call) string {
	if c.At < 0 || c.At >= len(l.changes) {
		return wrongPlace
	}
	if !isAskedFor(l.changes[c.At], c) {
		return isOther
	}
	return right
}

// isAskedFor: is a change what a write has asked for?
func isAskedFor(made Change, c Call) bool {
	op, asked := made.Op, c.Op
	return made.Client == c.Client &&
		op.Kind == asked.Kind && op.Path == asked.Path && op.To == asked.To && op.Quota == asked.Quota &&
		(op.Kind != tree.Add || made.Data == c.Data)
}

// nameTwice names a change; had it been named?
func (l ledger) nameTwice(number int) bool {
	twice := l.named[number]
	l.named[number] = true
	return twice
}

// lookBetween: a call that has made no change was done between two of them, or ahead of all or behind all.
func (l ledger) lookBetween(c Call) string {
	switch {
	case c.At < 0 || c.At > len(l.changes):
		return wrongPlace
	case c.At > 0 && l.changes[c.At-1].Step > c.End:
		return wrongTime
	case c.At < len(l.changes) && l.changes[c.At].Step < c.Start:
		return wrongTime
	}
	return right
}

// answers: what is wrong with the answer of a call that was done behind the changes that the model has gone through.
func (m *model) answers(c Call) string {
	switch c.Kind {
	case Write:
		return m.answersWrite(c)
	case Read:
		return m.answersRead(c)
	}
	return m.answersList(c)
}

// answersWrite: of a write that was refused.
func (m *model) answersWrite(c Call) string {
	op := c.Op
	op.Client = c.Client
	if m.Would(op) != c.Code {
		return wrongCode
	}
	return right
}

func (m *model) answersRead(c Call) string {
	info, code := m.Stat(c.Op.Path)
	if info.Dir {
		code = api.ErrIsDir
	}
	switch {
	case c.Code != code:
		return wrongCode
	case c.Code == api.OK && !m.holds(info.Pieces, c.Data):
		return wrongData
	}
	return right
}

func (m *model) answersList(c Call) string {
	names, code := m.List(c.Op.Path)
	switch {
	case c.Code != code:
		return wrongCode
	case c.Code == api.OK && !slices.Equal(c.Names, names):
		return wrongNames
	}
	return right
}
