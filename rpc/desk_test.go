package rpc_test

import (
	"math"
	"math/rand"
	"testing"

	"mahout/rpc"
)

func wantAsk(t *testing.T, d *rpc.Desk, client, call int, verdict rpc.Verdict, reply string) {
	t.Helper()
	if v, s := d.Ask(client, call); v != verdict || s != reply {
		t.Errorf("Ask(%d, %d): %d %q, not %d %q", client, call, v, s, verdict, reply)
	}
}

func wantReply(t *testing.T, d *rpc.Desk, client, call int, body string, want bool) {
	t.Helper()
	if got := d.Reply(client, call, body); got != want {
		t.Errorf("Reply(%d, %d): %v", client, call, got)
	}
}

// The chapter's numbers.
func TestNumbers(t *testing.T) {
	if rpc.New != 0 || rpc.Busy != 1 || rpc.Done != 2 || rpc.Old != 3 {
		t.Error("verdicts")
	}
	if rpc.Nothing != 0 || rpc.Again != 1 || rpc.Lost != 2 {
		t.Error("actions")
	}
}

// The chapter's example.
func TestDeskExample(t *testing.T) {
	var d rpc.Desk
	wantAsk(t, &d, 1, 5, rpc.New, "")
	wantAsk(t, &d, 1, 5, rpc.Busy, "")
	wantReply(t, &d, 1, 5, "x", true)
	wantAsk(t, &d, 1, 5, rpc.Done, "x")
	wantAsk(t, &d, 1, 4, rpc.Old, "")
	wantAsk(t, &d, 1, 6, rpc.New, "")
}

// P11.1: any number is a client, and a call.
func TestAskOfAnyNumbers(t *testing.T) {
	for _, client := range []int{0, -1, 1, math.MinInt, math.MaxInt} {
		for _, call := range []int{0, -1, 1, math.MinInt, math.MaxInt} {
			var d rpc.Desk
			wantReply(t, &d, client, call, "nobody asked", false)
			wantAsk(t, &d, client, call, rpc.New, "")
			wantAsk(t, &d, client, call, rpc.Busy, "")
			wantReply(t, &d, client, call, "x", true)
			wantAsk(t, &d, client, call, rpc.Done, "x")
		}
	}
	var d rpc.Desk
	wantAsk(t, &d, 1, math.MinInt, rpc.New, "")
	wantAsk(t, &d, 1, -1, rpc.New, "")
	wantAsk(t, &d, 1, math.MaxInt, rpc.New, "")
	wantAsk(t, &d, 1, math.MinInt, rpc.Old, "")
	wantAsk(t, &d, 1, math.MaxInt, rpc.Busy, "")
}

// P11.1: a call that is below the last one changes nothing, whether that has a reply or not.
func TestAskOfOldCalls(t *testing.T) {
	var d rpc.Desk
	wantAsk(t, &d, 1, 5, rpc.New, "")
	wantAsk(t, &d, 1, 4, rpc.Old, "")
	wantAsk(t, &d, 1, 5, rpc.Busy, "")
	wantReply(t, &d, 1, 4, "y", false)
	wantReply(t, &d, 1, 5, "x", true)
	wantAsk(t, &d, 1, 4, rpc.Old, "")
	wantAsk(t, &d, 1, 5, rpc.Done, "x")
	wantAsk(t, &d, 1, 5, rpc.Done, "x")
}

// P11.1: of a new call nothing of the one ahead of it is left.
func TestAskOfNextCall(t *testing.T) {
	var d rpc.Desk
	d.Ask(1, 5)
	d.Reply(1, 5, "x")
	wantAsk(t, &d, 1, 9, rpc.New, "")
	wantAsk(t, &d, 1, 9, rpc.Busy, "")
	wantAsk(t, &d, 1, 5, rpc.Old, "")
	wantReply(t, &d, 1, 5, "z", false)
	wantReply(t, &d, 1, 10, "z", false)
	wantAsk(t, &d, 1, 9, rpc.Busy, "")
}

// P11.2: a reply is given once, and may be empty.
func TestReply(t *testing.T) {
	var d rpc.Desk
	d.Ask(1, 5)
	wantReply(t, &d, 1, 6, "later", false)
	wantReply(t, &d, 2, 5, "another client", false)
	wantReply(t, &d, 1, 5, "", true)
	wantAsk(t, &d, 1, 5, rpc.Done, "")
	wantReply(t, &d, 1, 5, "once more", false)
	wantAsk(t, &d, 1, 5, rpc.Done, "")
	wantAsk(t, &d, 2, 5, rpc.New, "")
}

// P11.2: whatever was known of the client.
func TestSet(t *testing.T) {
	for _, ahead := range [][]int{nil, {5}, {7}, {9}} {
		for _, replied := range []bool{false, true} {
			var d rpc.Desk
			for _, call := range ahead {
				d.Ask(1, call)
				if replied {
					d.Reply(1, call, "ahead")
				}
			}
			d.Set(1, 7, "set")
			wantAsk(t, &d, 1, 6, rpc.Old, "")
			wantAsk(t, &d, 1, 7, rpc.Done, "set")
			wantReply(t, &d, 1, 7, "x", false)
			d.Set(1, 7, "")
			wantAsk(t, &d, 1, 7, rpc.Done, "")
			d.Set(2, -3, "another client")
			wantAsk(t, &d, 1, 7, rpc.Done, "")
			wantAsk(t, &d, 2, -3, rpc.Done, "another client")
			wantAsk(t, &d, 1, 8, rpc.New, "")
		}
	}
}

// P11.6
func TestNilDesk(t *testing.T) {
	var d *rpc.Desk
	d.Set(1, 5, "x")
	wantAsk(t, d, 1, 5, rpc.Old, "")
	wantAsk(t, d, 1, 6, rpc.Old, "")
	wantReply(t, d, 1, 6, "x", false)
}

// asked is a call as the words tell it.
type asked struct {
	client, call int
	reply        *string
}

// history is a desk as the words tell it: of each client the newest row counts.
type history []asked

func (h history) last(client int) *asked {
	for i := len(h) - 1; i >= 0; i-- {
		if h[i].client == client {
			return &h[i]
		}
	}
	return nil
}

func (h *history) ask(client, call int) (rpc.Verdict, string) {
	last := h.last(client)
	if last == nil || last.call < call {
		*h = append(*h, asked{client: client, call: call})
		return rpc.New, ""
	}
	if last.call == call && last.reply != nil {
		return rpc.Done, *last.reply
	}
	if last.call == call {
		return rpc.Busy, ""
	}
	return rpc.Old, ""
}

func (h history) reply(client, call int, body string) bool {
	last := h.last(client)
	if last == nil || last.call != call || last.reply != nil {
		return false
	}
	last.reply = &body
	return true
}

// P11.1, P11.2: any calls, by several clients, on several desks.
func TestAnyCallsOfDesks(t *testing.T) {
	r := rand.New(rand.NewSource(11))
	for range 300 {
		desks, histories := [2]rpc.Desk{}, [2]history{}
		for range 200 {
			which, client, call := r.Intn(2), r.Intn(4)-1, r.Intn(9)-2
			d, h := &desks[which], &histories[which]
			body := []string{"", "a", "b\x00"}[r.Intn(3)]
			switch r.Intn(10) {
			case 0:
				d.Set(client, call, body)
				*h = append(*h, asked{client, call, &body})
			case 1, 2, 3, 4:
				wantReply(t, d, client, call, body, h.reply(client, call, body))
			default:
				verdict, reply := h.ask(client, call)
				wantAsk(t, d, client, call, verdict, reply)
			}
			if t.Failed() {
				return
			}
		}
	}
}
