package names_test

import (
	"fmt"
	"maps"
	"math/rand"
	"slices"
	"testing"

	"mahout/api"
	"mahout/disk"
	"mahout/image"
	"mahout/names"
	"mahout/record"
	"mahout/tree"
)

// entry is a change that was made, and by which call.
type entry struct {
	client, call int
	op           tree.Op
}

// known is a client's last call.
type known struct {
	call    int
	replied bool
	code    api.Errno
}

// reply is an answer that waits; where it is one to a change, code is what the desk is to know.
type reply struct {
	answer   record.Message
	isChange bool
	code     api.Errno
}

// model is a name node as the words tell it: a list of changes, of which the first ones last.
type model struct {
	boot, every, made       int
	entries                 []entry
	lasting, laid           int // so many of them last, so many are in the image
	tree                    *tree.Tree
	desk                    map[int]known
	waiting                 []reply
	answered                int // so many of the entries lasted when answers were given last
	crashes, lost, repeated int // what has come about
}

func newModel(every int) *model {
	m := &model{every: every}
	m.open(nil)
	return m
}

// open: the next boot, of which no more is known than what the entries tell.
func (m *model) open(entries []entry) {
	m.boot++
	m.made, m.waiting, m.entries, m.lasting = 0, nil, entries, len(entries)
	m.tree, m.desk = tree.New(), map[int]known{}
	for _, e := range entries {
		m.tree.Apply(e.op)
		if e.client > 0 {
			m.desk[e.client] = known{e.call, true, api.OK}
		}
	}
}

func (m *model) clean() bool { return m.lasting == len(m.entries) }

func (m *model) seen() []image.Seen {
	last := map[int]int{}
	for _, e := range m.entries {
		if e.client > 0 {
			last[e.client] = e.call
		}
	}
	var seen []image.Seen
	for _, client := range slices.Sorted(maps.Keys(last)) {
		seen = append(seen, image.Seen{Client: client, Call: last[client]})
	}
	return seen
}

func (m *model) answer(to record.Message, code api.Errno, numbers ...int) record.Message {
	return record.Message{Kind: record.Answer, Client: to.Client, Call: to.Call, N: append([]int{int(code), m.boot}, numbers...)}
}

// given: the answer at once, or not yet.
func (m *model) given(r reply) []record.Message {
	m.waiting = append(m.waiting, r)
	if !m.clean() {
		return nil
	}
	return m.giveAll()
}

func (m *model) giveAll() []record.Message {
	var all []record.Message
	for _, r := range m.waiting {
		all = append(all, r.answer)
		last := m.desk[r.answer.Client]
		if r.isChange && last.call == r.answer.Call {
			m.desk[r.answer.Client] = known{last.call, true, r.code}
		}
	}
	m.waiting = nil
	m.answered = len(m.entries)
	return all
}

func (m *model) ask(q record.Message) []record.Message {
	switch q.Kind {
	case record.Look:
		info, code := m.tree.Stat(q.T[0])
		if code != api.OK {
			return m.given(reply{answer: m.answer(q, code)})
		}
		bit := map[bool]int{true: 1}
		return m.given(reply{answer: m.answer(q, code, bit[info.Dir], bit[info.Open], info.Holder, info.Quota, info.Count, info.Size)})
	case record.Names:
		names, code := m.tree.List(q.T[0])
		return m.given(reply{answer: told(m.answer(q, code), names...)})
	}
	if q.N[8] != m.boot {
		return []record.Message{m.answer(q, api.ErrStale)}
	}
	last, is := m.desk[q.Client]
	switch {
	case is && last.call == q.Call && last.replied:
		m.repeated++
		return []record.Message{m.answer(q, last.code)}
	case is && last.call >= q.Call:
		return nil
	}
	m.desk[q.Client] = known{call: q.Call}
	op, _ := record.Op(q)
	code := api.ErrArg
	if op.Kind != tree.Expire {
		code = m.make(entry{q.Client, q.Call, op})
	}
	return m.given(reply{m.answer(q, code), true, code})
}

func (m *model) make(e entry) api.Errno {
	code := m.tree.Apply(e.op)
	if code == api.OK {
		m.entries = append(m.entries, e)
		m.made++
	}
	return code
}

func (m *model) sync() []record.Message {
	m.lasting = len(m.entries)
	if m.every > 0 && len(m.entries)-m.laid >= m.every {
		m.laid = len(m.entries)
	}
	return m.giveAll()
}

// crash: some of the entries that don't last are left. What was answered lasts (P4).
func (m *model) crash(t *testing.T, keep, tear int) {
	m.crashes++
	n := min(m.lasting+keep, len(m.entries))
	if n < len(m.entries) {
		e := m.entries[n]
		if tear >= len(written(record.Of(e.client, e.call, 0, e.op))) {
			n++
		}
	}
	m.lost += len(m.entries) - n
	if n < m.answered {
		t.Error("the model forgets what was answered")
	}
	m.open(m.entries[:n:n])
}

func anyPath(r *rand.Rand) string {
	paths := []string{"/", "/a", "/b", "/a/x", "/a/y", "/b/x", "/a/x/z", "/b/x/z", "a", "/a/"}
	return paths[r.Intn(len(paths))]
}

func anyOp(r *rand.Rand) tree.Op {
	kinds := []int{tree.Mkdir, tree.Mkdir, tree.Mkdir, tree.Create, tree.Create, tree.Close, tree.Delete, tree.Rename, tree.Limit, tree.Expire, 0}
	return tree.Op{Kind: kinds[r.Intn(len(kinds))], Path: anyPath(r), To: anyPath(r), Client: r.Intn(2), Quota: r.Intn(9) * r.Intn(2)}
}

// anyQuestion: a change, mostly of the boot that is and mostly of a call about the last one, or a question.
func (m *model) anyQuestion(r *rand.Rand) record.Message {
	client := 1 + r.Intn(3)
	call := m.desk[client].call + r.Intn(4) - 1
	switch r.Intn(8) {
	case 0:
		return look(client, call, anyPath(r))
	case 1:
		return list(client, call, anyPath(r))
	}
	boot := m.boot
	if r.Intn(10) == 0 {
		boot += r.Intn(3) - 1
	}
	return record.Of(client, call, boot, anyOp(r))
}

// step does one call on both, or a crash.
func (m *model) step(t *testing.T, r *rand.Rand, d *disk.Disk, n *names.Node) *names.Node {
	t.Helper()
	switch r.Intn(20) {
	case 0, 1, 2, 3:
		wantSame(t, "Sync", n.Sync(), m.sync())
	case 4:
		path := anyPath(r)
		want(t, "Expire", n.Expire(path), m.make(entry{0, 0, tree.Op{Kind: tree.Expire, Path: path}}))
	case 5:
		keep, tear := r.Intn(6), r.Intn(60)
		d.Crash(keep, tear)
		m.crash(t, keep, tear)
		n = opened(t, d, m.boot, m.every)
	case 6:
		if r.Intn(4) == 0 { // opened anew without a crash
			m.open(m.entries)
			n = opened(t, d, m.boot, m.every)
		}
	default:
		q := m.anyQuestion(r)
		wantSame(t, fmt.Sprintf("Ask(%v)", q), n.Ask(q), m.ask(q))
	}
	wantState(t, "a step", n, state{m.made, len(m.waiting), m.clean(), m.seen(), m.tree.Entries()})
	return n
}

// wantFiles: does the disk hold the image that was laid last, and the records behind it?
func (m *model) wantFiles(t *testing.T, d *disk.Disk) {
	t.Helper()
	laid, edits := "", ""
	if m.laid > 0 {
		then := newModel(0)
		then.open(m.entries[:m.laid])
		laid = framed(image.Encode(then.tree, then.seen()))
	}
	for _, e := range m.entries[m.laid:] {
		edits += written(record.Of(e.client, e.call, 0, e.op))
	}
	wantLaid(t, d, laid, edits)
}

// P12.1 to P12.4, and P4: any calls and crashes, one behind the other.
func TestAnyCallsAndCrashes(t *testing.T) {
	crashes, lost, repeated, rolled := 0, 0, 0, 0
	for seed := range int64(300) {
		r := rand.New(rand.NewSource(seed))
		m, d := newModel(r.Intn(6)), disk.New(roomy)
		n := opened(t, d, m.boot, m.every)
		for range 200 {
			n = m.step(t, r, d, n)
			if t.Failed() {
				t.Fatalf("seed %d", seed)
			}
		}
		wantSame(t, "the last Sync", n.Sync(), m.sync())
		m.wantFiles(t, d)
		crashes, lost, repeated, rolled = crashes+m.crashes, lost+m.lost, repeated+m.repeated, rolled+m.laid
	}
	if crashes == 0 || lost == 0 || repeated == 0 || rolled == 0 {
		t.Errorf("%d crashes, %d records lost, %d answers repeated, %d records in images", crashes, lost, repeated, rolled)
	}
}

// P12: a client that asks till it is answered has its change made once, wherever the node crashes; P4: what was answered stays.
func TestAskedTillAnswered(t *testing.T) {
	for seed := range int64(200) {
		r := rand.New(rand.NewSource(seed))
		d, boot := disk.New(roomy), 1
		n := opened(t, d, boot, 2)
		for call := 1; call <= 20; call++ {
			path := fmt.Sprintf("/d%02d", call)
			for answered := false; !answered; {
				given := n.Ask(record.Of(1, call, boot, mkdir(path)))
				if r.Intn(3) == 0 {
					given = append(given, n.Sync()...)
				}
				if r.Intn(3) == 0 { // the answer may be lost
					given = nil
				}
				if len(given) > 0 {
					wantSame(t, "the answer", given[0], record.Message{Kind: record.Answer, Client: 1, Call: call, N: []int{0, boot}})
					answered = true
				}
				if r.Intn(3) == 0 {
					d.Crash(r.Intn(2), r.Intn(60))
					boot++
					n = opened(t, d, boot, 2)
				}
			}
			if got := len(n.Entries()) - 1; got != call {
				t.Fatalf("seed %d: %d directories behind call %d", seed, got, call)
			}
		}
	}
}
