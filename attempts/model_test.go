package attempts_test

import (
	"math/rand"
	"testing"

	"mahout/attempts"
)

// try is an attempt as the words tell it.
type try struct {
	task, number, node, begun int
	state                     string // running, good, failed or gone
	full, wins                bool
}

// sheet is a board as the words tell it: a list of all attempts, looked through whenever something is asked.
type sheet struct {
	maps, reduces, limit, patience int
	tries                          []*try
}

// those: the attempts that count.
func (s *sheet) those(counts func(x *try) bool) []*try {
	var list []*try
	for _, x := range s.tries {
		if counts(x) {
			list = append(list, x)
		}
	}
	return list
}

func (s *sheet) winner(task int) *try {
	for _, x := range s.those(func(x *try) bool { return x.task == task && x.wins }) {
		return x
	}
	return nil
}

// done: is every one of these tasks?
func (s *sheet) done(tasks ...int) bool {
	for _, task := range tasks {
		if s.winner(task) == nil {
			return false
		}
	}
	return true
}

func (s *sheet) finished() bool {
	return s.done(upTo(s.maps, s.maps+s.reduces)...)
}

func (s *sheet) dead() bool {
	for task := range s.maps + s.reduces {
		if len(s.those(func(x *try) bool { return x.task == task && x.full })) >= s.limit {
			return true
		}
	}
	return false
}

func (s *sheet) mayBegin(task int) bool {
	if task < 0 || task >= s.maps+s.reduces || s.done(task) {
		return false
	}
	return task < s.maps || s.done(upTo(0, s.maps)...)
}

func (s *sheet) running(task int) []*try {
	return s.those(func(x *try) bool { return x.task == task && x.state == "running" })
}

func (s *sheet) ready(node, now int) []int {
	if s.dead() {
		return nil
	}
	var idle, slow []int
	for task := range s.maps + s.reduces {
		if !s.mayBegin(task) {
			continue
		}
		r := s.running(task)
		if len(r) == 0 {
			idle = append(idle, task)
		}
		if len(r) == 1 && r[0].node != node && r[0].begun <= now-s.patience {
			slow = append(slow, task)
		}
	}
	if len(idle) > 0 {
		return idle
	}
	return slow
}

func (s *sheet) start(task, node, now int) int {
	if !s.mayBegin(task) || s.dead() {
		return 0
	}
	number := 1 + len(s.those(func(x *try) bool { return x.task == task }))
	s.tries = append(s.tries, &try{task: task, number: number, node: node, begun: now, state: "running"})
	return number
}

func (s *sheet) report(task, number, how int) bool {
	for _, x := range s.running(task) {
		if x.number != number {
			continue
		}
		switch how {
		case 1:
			x.state, x.wins = "good", !s.done(task)
		case 2:
			x.state = "failed"
		case 3:
			x.state, x.full = "failed", true
		default:
			return false
		}
		return true
	}
	return false
}

func (s *sheet) gone(node int) {
	for _, x := range s.those(func(x *try) bool { return x.node == node && x.state == "running" }) {
		x.state = "gone"
	}
}

func (s *sheet) lost(task, number int) bool {
	x := s.winner(task)
	if task >= s.maps || x == nil || x.number != number {
		return false
	}
	x.state, x.wins = "gone", false
	return true
}

// stepBoth does one call on a board and on its sheet; the wrong numbers among those that are chosen are few.
func stepBoth(t *testing.T, r *rand.Rand, b *attempts.Board, s *sheet) {
	task, number := r.Intn(s.maps+s.reduces+2)-1, 1+r.Intn(9)
	if len(s.tries) > 0 && r.Intn(8) > 0 {
		x := s.tries[r.Intn(len(s.tries))]
		task, number = x.task, x.number
	}
	node, now := r.Intn(4), r.Intn(30)
	switch r.Intn(12) {
	case 0, 1, 2, 3, 4:
		if ready := s.ready(node, now); len(ready) > 0 && r.Intn(4) > 0 {
			task = ready[r.Intn(len(ready))]
		}
		wantStart(t, b, task, node, now, s.start(task, node, now))
	case 5, 6, 7:
		wantReport(t, b, task, number, good, s.report(task, number, good))
	case 8, 9:
		how := r.Intn(5)
		wantReport(t, b, task, number, how, s.report(task, number, how))
	case 10:
		wantLost(t, b, task, number, s.lost(task, number))
	case 11:
		b.Gone(node)
		s.gone(node)
	}
}

// P22.1 to P22.6: any calls, one behind the other.
func TestAnyCalls(t *testing.T) {
	for seed := range int64(400) {
		r := rand.New(rand.NewSource(seed))
		s := &sheet{maps: r.Intn(4), reduces: r.Intn(4), limit: 1 + r.Intn(6), patience: 1 + r.Intn(9)}
		b := attempts.New(s.maps, s.reduces, s.limit, s.patience)
		for range 80 {
			stepBoth(t, r, b, s)
			node, now := r.Intn(4), r.Intn(40)
			wantReady(t, b, node, now, s.ready(node, now)...)
			wantOver(t, b, s.finished(), s.dead())
			for task := -1; task <= s.maps+s.reduces; task++ {
				if x := s.winner(task); x != nil {
					wantWinner(t, b, task, x.node, x.number)
				} else {
					wantNone(t, b, task)
				}
			}
			if t.Failed() {
				t.Fatalf("seed %d", seed)
			}
		}
	}
}
