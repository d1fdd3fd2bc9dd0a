package names_test

import (
	"fmt"
	"math"
	"slices"
	"testing"

	"mahout/api"
	"mahout/disk"
	"mahout/image"
	"mahout/names"
	"mahout/record"
	"mahout/tree"
	"mahout/wire"
)

// roomy is a capacity that no test fills.
const roomy = 1 << 26

func want(t *testing.T, what string, got, errno api.Errno) {
	t.Helper()
	if got != errno {
		t.Errorf("%s: %d, not %d", what, got, errno)
	}
}

// same: do they tell the same? A list without elements counts as none.
func same(a, b any) bool {
	return fmt.Sprintf("%+v", a) == fmt.Sprintf("%+v", b)
}

func wantSame(t *testing.T, what string, got, wanted any) {
	t.Helper()
	if !same(got, wanted) {
		t.Errorf("%s: %.300s, not %.300s", what, fmt.Sprintf("%+v", got), fmt.Sprintf("%+v", wanted))
	}
}

// opened is the node of a disk that can be opened.
func opened(t *testing.T, d *disk.Disk, boot, every int) *names.Node {
	t.Helper()
	n, e := names.Open(d, boot, every)
	if n == nil || e != api.OK {
		t.Fatalf("Open: %v, %d", n, e)
	}
	return n
}

// fresh is a node in boot 1 that never lays an image, and its disk.
func fresh(t *testing.T) (*names.Node, *disk.Disk) {
	t.Helper()
	d := disk.New(roomy)
	return opened(t, d, 1, 0), d
}

func mkdir(path string) tree.Op {
	return tree.Op{Kind: tree.Mkdir, Path: path}
}

// change is a call in boot 1.
func change(client, call int, op tree.Op) record.Message {
	return record.Of(client, call, 1, op)
}

func look(client, call int, path string) record.Message {
	return record.Message{Kind: record.Look, Client: client, Call: call, T: []string{path}}
}

func list(client, call int, path string) record.Message {
	return record.Message{Kind: record.Names, Client: client, Call: call, T: []string{path}}
}

// answer is what a call is told in boot 1.
func answer(client, call int, code api.Errno, numbers ...int) record.Message {
	return record.Message{Kind: record.Answer, Client: client, Call: call, N: append([]int{int(code), 1}, numbers...)}
}

// told is an answer with texts.
func told(m record.Message, texts ...string) record.Message {
	m.T = texts
	return m
}

func wantAsk(t *testing.T, n *names.Node, m record.Message, answers ...record.Message) {
	t.Helper()
	wantSame(t, fmt.Sprintf("Ask(%.100s)", fmt.Sprint(m)), n.Ask(m), answers)
}

func wantSync(t *testing.T, n *names.Node, answers ...record.Message) {
	t.Helper()
	wantSame(t, "Sync", n.Sync(), answers)
}

// made asks for a change that is made, and syncs.
func made(t *testing.T, n *names.Node, client, call int, op tree.Op) {
	t.Helper()
	wantAsk(t, n, change(client, call, op))
	wantSync(t, n, answer(client, call, api.OK))
}

// state is all that a node tells of itself.
type state struct {
	Made, Waiting int
	Clean         bool
	Seen          []image.Seen
	Entries       []tree.Entry
}

func stateOf(n *names.Node) state {
	return state{n.Made(), n.Waiting(), n.Clean(), n.Seen(), n.Entries()}
}

func wantState(t *testing.T, what string, n *names.Node, wanted state) {
	t.Helper()
	wantSame(t, what, stateOf(n), wanted)
}

// wantPaths: are there just these, beside the root?
func wantPaths(t *testing.T, what string, n *names.Node, paths ...string) {
	t.Helper()
	var all []string
	for _, e := range n.Entries() {
		all = append(all, e.Path)
	}
	if !slices.Equal(all, append([]string{"/"}, paths...)) {
		t.Errorf("%s: %q, not the root and %q", what, all, paths)
	}
}

func wantSeen(t *testing.T, what string, n *names.Node, seen ...image.Seen) {
	t.Helper()
	wantSame(t, what+": Seen", n.Seen(), seen)
}

// framed are the frames of these bodies, one behind the other.
func framed(bodies ...string) string {
	all := ""
	for _, body := range bodies {
		all += wire.Frame(body)
	}
	return all
}

// written are the records of changes as they stand in a journal.
func written(changes ...record.Message) string {
	all := ""
	for _, m := range changes {
		all += wire.Frame(record.Encode(m))
	}
	return all
}

// holding is a disk on which these files last (a name, its bytes, a name ..).
func holding(t *testing.T, capacity int, files ...string) *disk.Disk {
	t.Helper()
	d := disk.New(capacity)
	for i := 0; i < len(files); i += 2 {
		want(t, "Append", d.Append(files[i], files[i+1]), api.OK)
	}
	d.Sync()
	return d
}

func wantFiles(t *testing.T, what string, d *disk.Disk, files ...string) {
	t.Helper()
	var all []string
	for i := 0; i < len(files); i += 2 {
		all = append(all, files[i])
		if got, e := d.Read(files[i]); got != files[i+1] || e != api.OK {
			t.Errorf("%s: %s holds %.100x, %d, not %.100x", what, files[i], got, e, files[i+1])
		}
	}
	if got := d.List(); !slices.Equal(got, all) {
		t.Errorf("%s: %q, not %q", what, got, all)
	}
}

// grown is the tree that these changes come to.
func grown(t *testing.T, ops ...tree.Op) *tree.Tree {
	t.Helper()
	all := tree.New()
	for _, op := range ops {
		want(t, fmt.Sprint(op), all.Apply(op), api.OK)
	}
	return all
}

// extremes are numbers that stand at an edge.
func extremes() []int {
	return []int{math.MinInt, -1, 0, 1, math.MaxInt}
}
