package rpc

import "mahout/api"

// Action is what a caller should do.
type Action int

// The actions.
const (
	Nothing Action = iota
	Again
	Lost
)

// Caller asks again till there is a reply, or the time is up.
type Caller struct {
	wait, most  int
	call        int // the number of the last one
	underWay    bool
	begun, sent int // the moments when it was begun, and last sent
}

// moment: what a number counts as where a moment is meant.
func moment(n int) int {
	return min(max(n, 0), api.MaxTime)
}

// length: what a number counts as where a length of time is meant.
func length(n int) int {
	return min(max(n, 1), api.MaxTime)
}

// NewCaller: a caller that waits so long ahead of asking again, and so long in all.
func NewCaller(wait, most int) *Caller {
	return &Caller{wait: length(wait), most: length(most)}
}

// Start: begins the next call.
func (c *Caller) Start(now int) int {
	if c == nil {
		return 0
	}
	c.call++
	c.underWay = true
	c.begun = moment(now)
	c.sent = c.begun
	return c.call
}

// Tick: what is to be done now.
func (c *Caller) Tick(now int) Action {
	if c == nil || !c.underWay {
		return Nothing
	}
	now = moment(now)
	switch {
	case c.begun <= now-c.most:
		c.underWay = false
		return Lost
	case c.sent <= now-c.wait:
		c.sent = now
		return Again
	}
	return Nothing
}

// Got: a reply has come.
func (c *Caller) Got(call int) bool {
	if c == nil || !c.underWay || c.call != call {
		return false
	}
	c.underWay = false
	return true
}

// Call: the last call, and whether it is under way.
func (c *Caller) Call() (int, bool) {
	if c == nil {
		return 0, false
	}
	return c.call, c.underWay
}
