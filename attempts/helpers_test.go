package attempts_test

import (
	"slices"
	"testing"

	"mahout/attempts"
)

func wantReady(t *testing.T, b *attempts.Board, node, now int, want ...int) {
	t.Helper()
	if got := b.Ready(node, now); !slices.Equal(got, want) {
		t.Errorf("Ready(%d, %d): %v, not %v", node, now, got, want)
	}
}

func wantStart(t *testing.T, b *attempts.Board, task, node, now, want int) {
	t.Helper()
	if got := b.Start(task, node, now); got != want {
		t.Errorf("Start(%d, %d, %d): %d, not %d", task, node, now, got, want)
	}
}

func wantReport(t *testing.T, b *attempts.Board, task, attempt, how int, want bool) {
	t.Helper()
	if got := b.Report(task, attempt, how); got != want {
		t.Errorf("Report(%d, %d, %d): %v", task, attempt, how, got)
	}
}

func wantLost(t *testing.T, b *attempts.Board, task, attempt int, want bool) {
	t.Helper()
	if got := b.Lost(task, attempt); got != want {
		t.Errorf("Lost(%d, %d): %v", task, attempt, got)
	}
}

// wantWinner: the task is done, by this attempt of this node.
func wantWinner(t *testing.T, b *attempts.Board, task, node, attempt int) {
	t.Helper()
	if n, a, done := b.Winner(task); n != node || a != attempt || !done {
		t.Errorf("Winner(%d): %d, %d, %v, not %d, %d", task, n, a, done, node, attempt)
	}
}

// wantNone: these tasks aren't done, or aren't there.
func wantNone(t *testing.T, b *attempts.Board, tasks ...int) {
	t.Helper()
	for _, task := range tasks {
		if n, a, done := b.Winner(task); n != 0 || a != 0 || done {
			t.Errorf("Winner(%d): %d, %d, %v", task, n, a, done)
		}
	}
}

func wantOver(t *testing.T, b *attempts.Board, finished, dead bool) {
	t.Helper()
	if f, d := b.Finished(), b.Dead(); f != finished || d != dead {
		t.Errorf("Finished %v, Dead %v, not %v, %v", f, d, finished, dead)
	}
}

// wantDone does these tasks, one after the other, each by a next attempt of the node.
func wantDone(t *testing.T, b *attempts.Board, node int, tasks ...int) {
	t.Helper()
	for _, task := range tasks {
		if n := b.Start(task, node, 0); n < 1 || !b.Report(task, n, attempts.Good) {
			t.Errorf("task %d: attempt %d, not good", task, n)
		}
	}
}

// upTo: the numbers from one up to, but without, another.
func upTo(from, to int) []int {
	var list []int
	for n := from; n < to; n++ {
		list = append(list, n)
	}
	return list
}
