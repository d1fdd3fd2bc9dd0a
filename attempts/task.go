package attempts

// state is how it stands with an attempt.
type state int

// The states.
const (
	running state = iota
	good
	failed
	gone
)

// attempt is one of the attempts of a task.
type attempt struct {
	state       state
	node, begun int
}

// task is one of a job's tasks.
type task struct {
	attempts []attempt // the first one has the number 1
	first    int       // the place of the first that is running; the end, where none is
	live     int       // how many are running
	full     int       // how many failed as Full
	winner   int       // the number of the winner; 0, where there is none
}

func (t *task) done() bool {
	return t.winner != 0
}

// runs: is the attempt with this number running?
func (t *task) runs(number int) bool {
	return number >= 1 && number <= len(t.attempts) && t.attempts[number-1].state == running
}

// slow: is just one attempt running, of another node than this one, and begun then or earlier?
func (t *task) slow(node, then int) bool {
	if t.live != 1 {
		return false
	}
	a := t.attempts[t.first]
	return a.node != node && a.begun <= then
}

// begin: the next attempt is running; its number.
func (t *task) begin(node, now int) int {
	t.attempts = append(t.attempts, attempt{state: running, node: node, begun: now})
	t.live++
	return len(t.attempts)
}

// end: the attempt with this number isn't running any more.
func (t *task) end(number int, as state) {
	t.attempts[number-1].state = as
	t.live--
	// What has ended never runs again, so each attempt is passed once.
	for t.first < len(t.attempts) && t.attempts[t.first].state != running {
		t.first++
	}
}

// leave: a node's attempts that are running are gone.
func (t *task) leave(node int) {
	for i := t.first; i < len(t.attempts); i++ {
		if a := t.attempts[i]; a.state == running && a.node == node {
			t.end(i+1, gone)
		}
	}
}

// lose: the winner is gone, and nobody takes its place.
func (t *task) lose() {
	t.attempts[t.winner-1].state = gone
	t.winner = 0
}
