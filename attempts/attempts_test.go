package attempts_test

import (
	"math"
	"testing"

	"mahout/api"
	"mahout/attempts"
)

const (
	good   = attempts.Good
	failed = attempts.Failed
	full   = attempts.Full
)

// The chapter's example.
func TestExample(t *testing.T) {
	b := attempts.New(1, 1, 2, 5)
	wantReady(t, b, 1, 0, 0)
	wantStart(t, b, 0, 1, 0, 1)
	wantReady(t, b, 2, 4)
	wantReady(t, b, 2, 5, 0)
	wantReady(t, b, 1, 5)
	wantStart(t, b, 0, 2, 5, 2)
	wantReport(t, b, 0, 2, good, true)
	wantWinner(t, b, 0, 2, 2)
	wantReady(t, b, 1, 6, 1)
}

// P22.1: there are as many maps and reduces as is said, at least 0 and at most MaxTasks of each, and no attempts.
func TestNew(t *testing.T) {
	counts := []struct{ said, is int }{
		{math.MinInt, 0}, {-1, 0}, {0, 0}, {1, 1}, {7, 7}, {api.MaxTasks - 1, api.MaxTasks - 1},
		{api.MaxTasks, api.MaxTasks}, {api.MaxTasks + 1, api.MaxTasks}, {math.MaxInt, api.MaxTasks},
	}
	for _, maps := range counts {
		for _, reduces := range counts {
			b := attempts.New(maps.said, reduces.said, 2, 5)
			if b == nil {
				t.Fatalf("New(%d, %d): nil", maps.said, reduces.said)
			}
			wantOver(t, b, reduces.is == 0, false)
			if maps.is > 0 {
				wantReady(t, b, 1, 0, upTo(0, maps.is)...)
				wantDone(t, b, 1, upTo(0, maps.is)...)
			}
			all := maps.is + reduces.is
			wantReady(t, b, 1, 0, upTo(maps.is, all)...)
			wantStart(t, b, all, 1, 0, 0)
			wantDone(t, b, 1, upTo(maps.is, all)...)
			wantOver(t, b, true, false)
		}
	}
}

// P22.1: numbers that no task has, and attempts that there are not, at the beginning.
func TestNewHasNoAttempts(t *testing.T) {
	b := attempts.New(2, 2, 2, 5)
	for _, task := range []int{math.MinInt, -1, 0, 1, 2, 3, 4, math.MaxInt} {
		wantNone(t, b, task)
		for _, attempt := range []int{math.MinInt, -1, 0, 1, 2, math.MaxInt} {
			for _, how := range []int{good, failed, full} {
				wantReport(t, b, task, attempt, how, false)
			}
			wantLost(t, b, task, attempt, false)
		}
	}
	b.Gone(0)
	wantReady(t, b, 0, 0, 0, 1)
	wantOver(t, b, false, false)
}

// P22.1: a limit below 1 is 1.
func TestLimit(t *testing.T) {
	for _, c := range []struct{ said, is int }{{math.MinInt, 1}, {-1, 1}, {0, 1}, {1, 1}, {2, 2}, {5, 5}, {100, 100}} {
		b := attempts.New(1, 1, c.said, 5)
		for n := 1; n <= c.is; n++ {
			wantOver(t, b, false, false)
			wantStart(t, b, 0, 1, 0, n)
			wantReport(t, b, 0, n, full, true)
		}
		wantOver(t, b, false, true)
	}
	b := attempts.New(1, 1, math.MaxInt, 5)
	for n := 1; n < 1000; n++ {
		wantStart(t, b, 0, 1, 0, n)
		wantReport(t, b, 0, n, full, true)
	}
	wantOver(t, b, false, false)
}

// P22.1: patience and moments are cut to their bounds.
func TestBounds(t *testing.T) {
	for _, patience := range []int{1, 0, -1, math.MinInt} {
		b := attempts.New(1, 0, 2, patience)
		wantStart(t, b, 0, 1, 10, 1)
		wantReady(t, b, 2, 10)
		wantReady(t, b, 2, 11, 0)
	}
	for _, patience := range []int{api.MaxTime, api.MaxTime + 1, math.MaxInt} {
		b := attempts.New(2, 0, 2, patience)
		wantStart(t, b, 0, 1, 0, 1)
		wantStart(t, b, 1, 1, 1, 1)
		wantReady(t, b, 2, api.MaxTime-1)
		for _, now := range []int{api.MaxTime, api.MaxTime + 1, math.MaxInt} {
			wantReady(t, b, 2, now, 0)
		}
	}
	for _, early := range []int{0, -1, -5, math.MinInt} {
		b := attempts.New(1, 0, 2, 3)
		wantStart(t, b, 0, 1, early, 1)
		wantReady(t, b, 2, early)
		wantReady(t, b, 2, 2)
		wantReady(t, b, 2, 3, 0)
	}
	for _, late := range []int{api.MaxTime, api.MaxTime + 1, math.MaxInt} {
		b := attempts.New(2, 0, 2, 3)
		wantStart(t, b, 0, 1, late, 1)
		wantStart(t, b, 1, 1, api.MaxTime-3, 1)
		wantReady(t, b, 2, api.MaxTime-1)
		wantReady(t, b, 2, late, 1)
	}
}

// P22.2: the tasks without a running attempt, rising; the reduces only when all maps are done.
func TestReady(t *testing.T) {
	b := attempts.New(3, 2, 9, 5)
	wantReady(t, b, 1, 0, 0, 1, 2)
	wantStart(t, b, 1, 1, 0, 1)
	for _, node := range []int{1, 2, -1, math.MinInt} {
		wantReady(t, b, node, 100, 0, 2) // the slow one waits till all have begun
	}
	wantReport(t, b, 1, 1, good, true)
	wantReady(t, b, 1, 0, 0, 2)
	wantStart(t, b, 2, 1, 0, 1)
	wantReport(t, b, 2, 1, failed, true)
	wantReady(t, b, 1, 0, 0, 2)
	wantStart(t, b, 0, 1, 0, 1)
	wantStart(t, b, 2, 1, 0, 2)
	wantReport(t, b, 2, 2, good, true)
	wantReady(t, b, 1, 0)
	wantReport(t, b, 0, 1, full, true)
	wantReady(t, b, 1, 0, 0)
	wantDone(t, b, 1, 0)
	wantReady(t, b, 1, 0, 3, 4)
	wantStart(t, b, 3, 1, 0, 1)
	wantReady(t, b, 2, 100, 4)
	wantDone(t, b, 1, 4)
	wantReady(t, b, 2, 5, 3)
	wantReport(t, b, 3, 1, good, true)
	wantReady(t, b, 2, 100)
}

// P22.2: without maps, all maps are done.
func TestReadyWithoutMaps(t *testing.T) {
	b := attempts.New(0, 2, 2, 5)
	wantReady(t, b, 1, 0, 0, 1)
	wantStart(t, b, 1, 1, 0, 1)
	wantLost(t, b, 0, 1, false)
	wantReport(t, b, 1, 1, good, true)
	wantLost(t, b, 1, 1, false)
	wantWinner(t, b, 1, 1, 1)
	b = attempts.New(-3, 0, 2, 5)
	wantReady(t, b, 1, 0)
	wantOver(t, b, true, false)
}

// P22.2: what is slow is tried twice at a time, by two nodes, rising; not what is tried twice already.
func TestSlow(t *testing.T) {
	b := attempts.New(4, 1, 2, 5)
	for task, begun := range []int{12, 10, 11, 10} {
		wantStart(t, b, task, task+1, begun, 1)
	}
	wantReady(t, b, 9, 14)
	wantReady(t, b, 9, 15, 1, 3)
	wantReady(t, b, 2, 15, 3)
	wantReady(t, b, 4, 15, 1)
	wantReady(t, b, 9, 16, 1, 2, 3)
	wantReady(t, b, 9, 17, 0, 1, 2, 3)
	wantReady(t, b, 9, 0)
	wantStart(t, b, 1, 9, 17, 2)
	wantReady(t, b, 8, 99, 0, 2, 3)
	wantReport(t, b, 1, 1, failed, true)
	wantReady(t, b, 8, 21, 0, 2, 3) // of task 1 the second attempt alone is running
	wantReady(t, b, 8, 22, 0, 1, 2, 3)
	wantReady(t, b, 9, 22, 0, 2, 3)
	wantReady(t, b, 2, 22, 0, 1, 2, 3) // task 1's attempt of this node has failed
	wantReport(t, b, 1, 2, good, true)
	wantReady(t, b, 8, 99, 0, 2, 3)
}

// P22.2: of two running attempts the first alone may be left, or the last.
func TestSlowOneOfMany(t *testing.T) {
	for left := 1; left <= 4; left++ {
		b := attempts.New(1, 0, 9, 5)
		for n := 1; n <= 4; n++ {
			wantStart(t, b, 0, n, 10*n, n)
		}
		for n := 1; n <= 4; n++ {
			if n != left {
				wantReady(t, b, 9, 999)
				wantReport(t, b, 0, n, failed, true)
			}
		}
		wantReady(t, b, 9, 10*left+4)
		wantReady(t, b, 9, 10*left+5, 0)
		wantReady(t, b, left, 10*left+5)
		wantReady(t, b, left+1, 10*left+5, 0)
	}
}

// P22.3: attempts are numbered from 1 on, task by task; nobody but the words says who may begin one.
func TestStart(t *testing.T) {
	b := attempts.New(2, 1, 2, 5)
	for n := 1; n <= 5; n++ {
		wantStart(t, b, 0, 7, 10-n, n) // of the same node, while others are running, and earlier
	}
	wantStart(t, b, 1, -7, 0, 1)
	for _, task := range []int{2, 3, -1, math.MinInt, math.MaxInt} {
		wantStart(t, b, task, 1, 0, 0)
	}
	wantReport(t, b, 0, 3, good, true)
	wantStart(t, b, 0, 1, 0, 0) // it is done
	wantReport(t, b, 1, 1, failed, true)
	wantStart(t, b, 1, 1, 0, 2)
	wantReport(t, b, 1, 2, full, true)
	wantStart(t, b, 1, 1, 0, 3)
	b.Gone(1)
	wantStart(t, b, 1, 4, 0, 4)
	wantReport(t, b, 1, 4, good, true)
	wantStart(t, b, 2, 1, 0, 1)
	wantReport(t, b, 2, 1, failed, true)
	wantLost(t, b, 0, 3, true)
	wantStart(t, b, 2, 1, 0, 0) // not all maps are done any more
	wantStart(t, b, 0, 1, 0, 6)
	wantReport(t, b, 0, 6, good, true)
	wantStart(t, b, 2, 1, 0, 2)
}

// P22.3: a Start that answers 0 has changed nothing.
func TestStartOfNothing(t *testing.T) {
	b := attempts.New(1, 1, 2, 5)
	wantStart(t, b, 1, 1, 0, 0)
	wantReport(t, b, 1, 1, good, false)
	wantDone(t, b, 1, 0)
	wantStart(t, b, 0, 1, 0, 0)
	wantReport(t, b, 0, 2, good, false)
	wantReady(t, b, 1, 0, 1)
	wantLost(t, b, 0, 1, true)
	wantStart(t, b, 0, 1, 0, 2)
	wantReport(t, b, 0, 2, good, true)
	wantStart(t, b, 1, 1, 0, 1)
}

// P22.4: only running attempts are reported, each once, and only as Good, Failed or Full.
func TestReport(t *testing.T) {
	for _, how := range []int{good, failed, full} {
		b := attempts.New(2, 1, 9, 5)
		wantStart(t, b, 0, 1, 0, 1)
		wantStart(t, b, 0, 2, 0, 2)
		for _, wrong := range []int{0, -1, 4, math.MinInt, math.MaxInt} {
			wantReport(t, b, 0, 1, wrong, false)
		}
		for _, attempt := range []int{0, -1, 3, math.MinInt, math.MaxInt} {
			wantReport(t, b, 0, attempt, how, false)
		}
		for _, task := range []int{1, 2, 3, -1, math.MinInt, math.MaxInt} {
			wantReport(t, b, task, 1, how, false)
		}
		wantReport(t, b, 0, 1, how, true)
		for _, again := range []int{good, failed, full} {
			wantReport(t, b, 0, 1, again, false)
		}
		wantReport(t, b, 0, 2, how, true)
		wantReport(t, b, 0, 2, good, false)
	}
}

// P22.4: the first good attempt is the winner; what comes of the others changes nothing in that.
func TestFirstGoodOneWins(t *testing.T) {
	for _, how := range []int{good, failed, full} {
		b := attempts.New(1, 1, 9, 5)
		for n := 1; n <= 4; n++ {
			wantStart(t, b, 0, 10*n, 0, n)
		}
		wantReport(t, b, 0, 2, failed, true)
		wantNone(t, b, 0)
		wantReport(t, b, 0, 3, good, true)
		wantWinner(t, b, 0, 30, 3)
		wantReport(t, b, 0, 1, how, true)
		wantWinner(t, b, 0, 30, 3)
		b.Gone(40)
		b.Gone(30)
		wantWinner(t, b, 0, 30, 3)
		wantReport(t, b, 0, 4, good, false)
		wantReady(t, b, 1, 0, 1)
		wantLost(t, b, 0, 1, false)
		wantLost(t, b, 0, 4, false)
		wantWinner(t, b, 0, 30, 3)
	}
}

// P22.4: reports are taken when the task may not begin any more, and when a task has failed too often.
func TestReportLate(t *testing.T) {
	b := attempts.New(2, 1, 1, 5)
	wantDone(t, b, 1, 0, 1)
	wantStart(t, b, 2, 1, 0, 1)
	wantStart(t, b, 2, 2, 0, 2)
	wantLost(t, b, 0, 1, true)
	wantReport(t, b, 2, 1, failed, true)
	wantStart(t, b, 0, 3, 0, 2)
	wantStart(t, b, 0, 4, 0, 3)
	wantReport(t, b, 0, 2, full, true)
	wantOver(t, b, false, true)
	wantReport(t, b, 0, 3, good, true)
	wantWinner(t, b, 0, 4, 3)
	wantReport(t, b, 2, 2, good, true)
	wantWinner(t, b, 2, 2, 2)
	wantOver(t, b, true, true)
}

// P22.4: a node's running attempts are gone, of all tasks; what has ended stays.
func TestGone(t *testing.T) {
	b := attempts.New(3, 1, 1, 5)
	wantStart(t, b, 0, 1, 0, 1)
	wantStart(t, b, 0, 2, 0, 2)
	wantStart(t, b, 0, 1, 0, 3)
	wantStart(t, b, 1, 1, 0, 1)
	wantStart(t, b, 2, 1, 0, 1)
	wantReport(t, b, 2, 1, good, true)
	b.Gone(3)
	wantReady(t, b, 3, 5, 1)
	b.Gone(1)
	wantReady(t, b, 3, 5, 1) // it has none running, so task 0, whose second is, must wait
	wantReport(t, b, 0, 1, good, false)
	wantReport(t, b, 0, 3, full, false)
	wantReport(t, b, 1, 1, failed, false)
	wantWinner(t, b, 2, 1, 1)
	wantOver(t, b, false, false)
	wantStart(t, b, 1, 1, 0, 2)
	wantReady(t, b, 3, 5, 0, 1)
	wantReady(t, b, 1, 5, 0)
	b.Gone(2)
	wantReady(t, b, 3, 5, 0)
	wantStart(t, b, 0, 3, 0, 4)
	b.Gone(2)
	b.Gone(math.MinInt)
	wantReport(t, b, 0, 4, good, true)
	wantWinner(t, b, 0, 3, 4)
}

// P22.4, P22.6: what is gone counts nothing, and neither does what has failed as Failed.
func TestGoneCountsNothing(t *testing.T) {
	b := attempts.New(1, 1, 2, 5)
	for n := 1; n < 100; n++ {
		wantStart(t, b, 0, 1, 0, n)
		if n%2 == 0 {
			b.Gone(1)
		} else {
			wantReport(t, b, 0, n, failed, true)
		}
		wantReady(t, b, 1, 0, 0)
		wantOver(t, b, false, false)
	}
}

// P22.5: the winner of a map may be lost; then the map isn't done, and no reduce may begin.
func TestLost(t *testing.T) {
	b := attempts.New(2, 2, 2, 5)
	for _, attempt := range []int{0, 1, -1} {
		wantLost(t, b, 0, attempt, false)
	}
	wantStart(t, b, 0, 1, 0, 1)
	wantLost(t, b, 0, 1, false) // it is running
	wantReport(t, b, 0, 1, failed, true)
	wantLost(t, b, 0, 1, false)
	wantDone(t, b, 4, 0, 1)
	wantReady(t, b, 1, 0, 2, 3)
	for _, attempt := range []int{0, 1, 3, -2, math.MinInt, math.MaxInt} {
		wantLost(t, b, 0, attempt, false)
	}
	for _, task := range []int{2, 4, -1, math.MinInt, math.MaxInt} {
		wantLost(t, b, task, 1, false)
		wantLost(t, b, task, 0, false)
	}
	wantWinner(t, b, 0, 4, 2)
	wantLost(t, b, 0, 2, true)
	wantNone(t, b, 0)
	wantWinner(t, b, 1, 4, 1)
	wantLost(t, b, 0, 2, false)
	wantLost(t, b, 0, 0, false)
	wantReport(t, b, 0, 2, good, false)
	wantReady(t, b, 1, 0, 0)
	wantStart(t, b, 2, 1, 0, 0)
	wantLost(t, b, 1, 1, true)
	wantReady(t, b, 1, 0, 0, 1)
	wantDone(t, b, 5, 1)
	wantReady(t, b, 1, 0, 0)
	wantDone(t, b, 5, 0)
	wantWinner(t, b, 0, 5, 3)
	wantReady(t, b, 1, 0, 2, 3)
}

// P22.5: no other good attempt takes the place of a winner that is lost; a running one may win.
func TestLostHasNoHeir(t *testing.T) {
	b := attempts.New(1, 1, 2, 5)
	for n := 1; n <= 4; n++ {
		wantStart(t, b, 0, n, 0, n)
	}
	wantReport(t, b, 0, 2, good, true)
	wantReport(t, b, 0, 1, good, true)
	wantWinner(t, b, 0, 2, 2)
	wantLost(t, b, 0, 2, true)
	wantNone(t, b, 0)
	wantLost(t, b, 0, 1, false)
	wantReport(t, b, 0, 1, good, false)
	wantReady(t, b, 9, 99) // two are running
	wantReport(t, b, 0, 3, failed, true)
	wantReady(t, b, 9, 99, 0)
	wantReport(t, b, 0, 4, good, true)
	wantWinner(t, b, 0, 4, 4)
}

// P22.5, P22.6: a reduce that is done stays done.
func TestReduceIsNotLost(t *testing.T) {
	b := attempts.New(1, 2, 2, 5)
	wantDone(t, b, 3, 0, 1)
	wantOver(t, b, false, false)
	wantLost(t, b, 1, 1, false)
	wantDone(t, b, 3, 2)
	wantOver(t, b, true, false)
	wantLost(t, b, 2, 1, false)
	wantLost(t, b, 0, 1, true)
	wantWinner(t, b, 1, 3, 1)
	wantWinner(t, b, 2, 3, 1)
	wantOver(t, b, true, false)
	wantReady(t, b, 1, 0, 0)
}

// P22.6: what is dead is dead, but what is under way may end all the same.
func TestDead(t *testing.T) {
	for _, task := range []int{0, 1, 2} {
		b := attempts.New(2, 1, 2, 5)
		if task == 2 {
			wantDone(t, b, 1, 0, 1)
		}
		for n := 1; n <= 4; n++ {
			wantStart(t, b, task, n, 0, n)
		}
		wantReport(t, b, task, 2, full, true)
		wantOver(t, b, false, false)
		wantReport(t, b, task, 4, full, true)
		wantOver(t, b, false, true)
		wantReady(t, b, 9, 99)
		for other := range 3 {
			wantStart(t, b, other, 1, 0, 0)
		}
		wantReport(t, b, task, 5, good, false)
		b.Gone(1)
		wantReport(t, b, task, 1, good, false)
		wantReport(t, b, task, 3, good, true)
		wantWinner(t, b, task, 3, 3)
		wantOver(t, b, task == 2, true)
		wantReady(t, b, 9, 99)
		wantLost(t, b, task, 3, task != 2)
		wantReady(t, b, 9, 99)
	}
}

// P22.6: no report of another task makes alive again.
func TestDeadStaysDead(t *testing.T) {
	b := attempts.New(2, 1, 2, 5)
	for n := 1; n <= 3; n++ {
		wantStart(t, b, 0, n, 0, n)
		wantStart(t, b, 1, n, 0, n)
	}
	wantReport(t, b, 0, 1, full, true)
	wantReport(t, b, 0, 2, full, true)
	for n, how := range []int{full, failed, good} {
		wantReport(t, b, 1, n+1, how, true)
		wantOver(t, b, false, true)
		wantReady(t, b, 9, 99)
	}
	b.Gone(3)
	wantLost(t, b, 1, 3, true)
	wantOver(t, b, false, true)
	wantStart(t, b, 1, 1, 0, 0)
}

// P22.6: the limit is each task's own, and counts also when the task is done.
func TestLimitOfEachTask(t *testing.T) {
	b := attempts.New(3, 0, 2, 5)
	for task := range 3 {
		wantStart(t, b, task, 1, 0, 1)
		wantReport(t, b, task, 1, full, true)
		wantOver(t, b, true, false)
	}
	wantStart(t, b, 1, 1, 0, 2)
	wantStart(t, b, 1, 2, 0, 3)
	wantReport(t, b, 1, 3, good, true)
	wantOver(t, b, true, false)
	wantReport(t, b, 1, 2, full, true)
	wantOver(t, b, true, true)
	wantWinner(t, b, 1, 2, 3)
}

// P22.7
func TestNil(t *testing.T) {
	var b *attempts.Board
	for _, n := range []int{math.MinInt, -1, 0, 1, math.MaxInt} {
		wantReady(t, b, n, n)
		wantStart(t, b, n, n, n, 0)
		wantReport(t, b, n, n, good, false)
		wantReport(t, b, n, n, n, false)
		wantLost(t, b, n, n, false)
		wantNone(t, b, n)
		b.Gone(n)
	}
	wantOver(t, b, false, false)
}

// An answer is new memory, and boards have nothing to do with one another.
func TestNothingIsShared(t *testing.T) {
	one, two := attempts.New(3, 1, 2, 5), attempts.New(3, 1, 2, 5)
	ready := one.Ready(1, 0)
	again := one.Ready(1, 0)
	ready[0] = 9
	wantReady(t, one, 1, 0, 0, 1, 2)
	if again[0] != 0 {
		t.Error("two answers share memory")
	}
	wantDone(t, one, 1, 0, 1, 2, 3)
	wantReady(t, two, 1, 0, 0, 1, 2)
	wantNone(t, two, 0)
	wantOver(t, two, false, false)
}

// Many attempts, of one task and of many, are no more work than few.
func TestManyAttempts(t *testing.T) {
	b := attempts.New(1, 1, 2, 5)
	wantStart(t, b, 0, 1, 0, 1)
	const many = 1 << 16
	for n := 2; n <= many; n++ {
		wantStart(t, b, 0, 2, 0, n)
		wantReady(t, b, 3, 9)
		wantReport(t, b, 0, n, failed, true)
		wantReady(t, b, 3, 9, 0)
	}
	for n := many + 1; n <= 2*many; n++ {
		wantStart(t, b, 0, 2, 0, n)
	}
	for n := 2 * many; n > many; n-- {
		wantReport(t, b, 0, n, good, true)
	}
	wantWinner(t, b, 0, 2, 2*many)
}
