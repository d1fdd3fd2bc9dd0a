package rpc_test

import (
	"math"
	"math/rand"
	"testing"

	"mahout/api"
	"mahout/rpc"
)

func wantStart(t *testing.T, c *rpc.Caller, now, want int) {
	t.Helper()
	if got := c.Start(now); got != want {
		t.Errorf("Start(%d): %d, not %d", now, got, want)
	}
}

func wantTick(t *testing.T, c *rpc.Caller, now int, want rpc.Action) {
	t.Helper()
	if got := c.Tick(now); got != want {
		t.Errorf("Tick(%d): %d, not %d", now, got, want)
	}
}

func wantGot(t *testing.T, c *rpc.Caller, call int, want bool) {
	t.Helper()
	if got := c.Got(call); got != want {
		t.Errorf("Got(%d): %v", call, got)
	}
}

func wantCall(t *testing.T, c *rpc.Caller, call int, underWay bool) {
	t.Helper()
	if n, is := c.Call(); n != call || is != underWay {
		t.Errorf("Call: %d %v, not %d %v", n, is, call, underWay)
	}
}

// The chapter's example.
func TestCallerExample(t *testing.T) {
	c := rpc.NewCaller(2, 5)
	wantStart(t, c, 10, 1)
	wantTick(t, c, 11, rpc.Nothing)
	wantTick(t, c, 12, rpc.Again)
	wantTick(t, c, 13, rpc.Nothing)
	wantTick(t, c, 15, rpc.Lost)
	wantGot(t, c, 1, false)
}

// P11.3 to P11.5: no call was begun.
func TestNewCaller(t *testing.T) {
	for _, n := range []int{math.MinInt, -1, 0, 1, 7, math.MaxInt} {
		c := rpc.NewCaller(n, n)
		if c == nil {
			t.Fatal("nil")
		}
		wantCall(t, c, 0, false)
		wantTick(t, c, math.MaxInt, rpc.Nothing)
		wantGot(t, c, 0, false)
		wantGot(t, c, 1, false)
		wantCall(t, c, 0, false)
		wantStart(t, c, 0, 1)
	}
}

// P11.3: the numbers rise by 1, and the call ahead is under way no more.
func TestStart(t *testing.T) {
	c := rpc.NewCaller(2, 5)
	for n := 1; n < 100; n++ {
		wantStart(t, c, 10*n, n)
		wantCall(t, c, n, true)
		wantGot(t, c, n-1, false)
		wantGot(t, c, n+1, false)
		wantCall(t, c, n, true)
		switch n % 3 {
		case 0:
			wantGot(t, c, n, true)
		case 1:
			wantTick(t, c, 10*n+5, rpc.Lost)
		}
		wantCall(t, c, n, n%3 == 2)
	}
}

// P11.3: what was begun and sent of the call ahead doesn't count for the next.
func TestStartAnew(t *testing.T) {
	c := rpc.NewCaller(3, 5)
	wantStart(t, c, 10, 1)
	wantTick(t, c, 13, rpc.Again)
	wantStart(t, c, 14, 2)
	wantTick(t, c, 16, rpc.Nothing)
	wantTick(t, c, 17, rpc.Again)
	wantTick(t, c, 18, rpc.Nothing)
	wantTick(t, c, 19, rpc.Lost)
	wantStart(t, c, 2, 3) // an earlier moment
	wantTick(t, c, 4, rpc.Nothing)
	wantTick(t, c, 5, rpc.Again)
	wantTick(t, c, 7, rpc.Lost)
}

// P11.4: to ask again is counted from the last time, to be lost from the beginning.
func TestTick(t *testing.T) {
	c := rpc.NewCaller(2, 9)
	wantStart(t, c, 100, 1)
	for now, want := range []rpc.Action{rpc.Nothing, rpc.Nothing, rpc.Again, rpc.Nothing, rpc.Again, rpc.Nothing, rpc.Again, rpc.Nothing, rpc.Again, rpc.Lost, rpc.Nothing, rpc.Nothing} {
		wantTick(t, c, 100+now, want)
		wantCall(t, c, 1, now < 9)
	}
	wantGot(t, c, 1, false)
	c.Start(100)
	wantTick(t, c, 104, rpc.Again) // late, and from then on anew
	wantTick(t, c, 105, rpc.Nothing)
	wantTick(t, c, 106, rpc.Again)
	wantTick(t, c, 50, rpc.Nothing) // earlier than it was sent
	wantTick(t, c, 107, rpc.Nothing)
	wantTick(t, c, 1000, rpc.Lost)
}

// P11.4: where both are due it is lost; where the wait is the longer one it is never sent again.
func TestTickOfBoth(t *testing.T) {
	for _, wait := range []int{5, 6, math.MaxInt} {
		c := rpc.NewCaller(wait, 5)
		c.Start(0)
		for now := range 5 {
			wantTick(t, c, now, rpc.Nothing)
		}
		wantTick(t, c, 5, rpc.Lost)
		wantTick(t, c, 6, rpc.Nothing)
	}
}

// P11.4: the moment when it was sent again is the one of the Tick, the cut one.
func TestTickAgainInThePast(t *testing.T) {
	c := rpc.NewCaller(1, 1<<40)
	c.Start(0)
	wantTick(t, c, math.MinInt, rpc.Nothing)
	wantTick(t, c, 1, rpc.Again)
	wantTick(t, c, 0, rpc.Nothing)
	wantTick(t, c, 1, rpc.Nothing)
	wantTick(t, c, 2, rpc.Again)
}

// P11.5
func TestGot(t *testing.T) {
	c := rpc.NewCaller(2, 5)
	c.Start(0)
	for _, call := range []int{0, 2, -1, math.MinInt, math.MaxInt} {
		wantGot(t, c, call, false)
		wantCall(t, c, 1, true)
	}
	wantGot(t, c, 1, true)
	wantCall(t, c, 1, false)
	wantGot(t, c, 1, false)
	wantTick(t, c, 2, rpc.Nothing)
	wantTick(t, c, 5, rpc.Nothing)
	wantStart(t, c, 5, 2)
	wantGot(t, c, 1, false)
	wantGot(t, c, 2, true)
}

// P11.3: moments below 0 count as 0, above MaxTime as MaxTime.
func TestMomentsAreCut(t *testing.T) {
	for _, below := range []int{0, -1, -1000, math.MinInt} {
		c := rpc.NewCaller(2, 5)
		c.Start(below)
		wantTick(t, c, 1, rpc.Nothing)
		wantTick(t, c, 2, rpc.Again)
		wantTick(t, c, 4, rpc.Again)
		wantTick(t, c, below, rpc.Nothing)
		wantTick(t, c, 5, rpc.Lost)
	}
	for _, above := range []int{api.MaxTime, api.MaxTime + 1, math.MaxInt} {
		c := rpc.NewCaller(2, 5)
		c.Start(api.MaxTime - 3)
		wantTick(t, c, above, rpc.Again) // no later than 3 behind the beginning
		wantTick(t, c, above, rpc.Nothing)
		c.Start(above)
		wantTick(t, c, math.MaxInt, rpc.Nothing)
		wantCall(t, c, 2, true)
		c.Start(api.MaxTime - 5)
		wantTick(t, c, above, rpc.Lost)
	}
}

// P11.3: lengths below 1 count as 1, above MaxTime as MaxTime.
func TestLengthsAreCut(t *testing.T) {
	for _, below := range []int{1, 0, -1, math.MinInt} {
		c := rpc.NewCaller(below, 5)
		c.Start(10)
		wantTick(t, c, 10, rpc.Nothing)
		wantTick(t, c, 11, rpc.Again)
		wantTick(t, c, 12, rpc.Again)
		c = rpc.NewCaller(9, below)
		c.Start(10)
		wantTick(t, c, 10, rpc.Nothing)
		wantTick(t, c, 11, rpc.Lost)
	}
	for _, above := range []int{api.MaxTime, api.MaxTime + 1, math.MaxInt} {
		c := rpc.NewCaller(1, above)
		c.Start(0)
		wantTick(t, c, api.MaxTime-1, rpc.Again)
		wantTick(t, c, api.MaxTime, rpc.Lost)
		c.Start(1)
		wantTick(t, c, math.MaxInt, rpc.Again)
		c = rpc.NewCaller(above, above)
		c.Start(0)
		wantTick(t, c, api.MaxTime-1, rpc.Nothing)
		wantTick(t, c, api.MaxTime, rpc.Lost)
	}
}

// P11.6
func TestNilCaller(t *testing.T) {
	var c *rpc.Caller
	for range 2 {
		wantStart(t, c, 1, 0)
		wantTick(t, c, 100, rpc.Nothing)
		wantGot(t, c, 0, false)
		wantGot(t, c, 1, false)
		wantCall(t, c, 0, false)
	}
}

// caller is a caller as the words tell it.
type caller struct {
	wait, most, calls int
	underWay          bool
	begun, sent       int
}

func cut(n, least int) int {
	if n < least {
		return least
	}
	if n > 1<<40 {
		return 1 << 40
	}
	return n
}

func (c *caller) tick(now int) rpc.Action {
	now = cut(now, 0)
	if !c.underWay {
		return rpc.Nothing
	}
	if now >= c.begun+c.most {
		c.underWay = false
		return rpc.Lost
	}
	if now >= c.sent+c.wait {
		c.sent = now
		return rpc.Again
	}
	return rpc.Nothing
}

// P11.3 to P11.5: any calls.
func TestAnyCallsOfCallers(t *testing.T) {
	r := rand.New(rand.NewSource(12))
	for range 500 {
		wait, most, base := r.Intn(6)-1, r.Intn(15)-1, r.Intn(3)*(api.MaxTime/2)-3
		c, m := rpc.NewCaller(wait, most), caller{wait: cut(wait, 1), most: cut(most, 1)}
		for range 100 {
			now := base + r.Intn(25) - 5
			switch r.Intn(7) {
			case 0:
				m.calls++
				m.underWay, m.begun, m.sent = true, cut(now, 0), cut(now, 0)
				wantStart(t, c, now, m.calls)
			case 1:
				call := m.calls - r.Intn(3) + 1
				is := m.underWay && call == m.calls
				m.underWay = m.underWay && !is
				wantGot(t, c, call, is)
			default:
				wantTick(t, c, now, m.tick(now))
			}
			wantCall(t, c, m.calls, m.underWay)
			if t.Failed() {
				return
			}
		}
	}
}
