package names_test

import (
	"math"
	"slices"
	"strings"
	"testing"

	"mahout/api"
	"mahout/disk"
	"mahout/image"
	"mahout/names"
	"mahout/record"
	"mahout/tree"
)

// The chapter's example.
func TestExample(t *testing.T) {
	n, d := fresh(t)
	m := change(1, 1, mkdir("/a"))
	wantAsk(t, n, m)
	wantSync(t, n, answer(1, 1, api.OK))
	wantAsk(t, n, m, answer(1, 1, api.OK))
	d.Crash(0, 0)
	n = opened(t, d, 2, 0)
	wantAsk(t, n, m, record.Message{Kind: record.Answer, Client: 1, Call: 1, N: []int{int(api.ErrStale), 2}})
	m.N[8] = 2
	wantAsk(t, n, m, record.Message{Kind: record.Answer, Client: 1, Call: 1, N: []int{0, 2}})
	wantPaths(t, "behind the crash", n, "/a")
}

// P12.2: what isn't asked of a name node changes nothing, and is answered by nothing.
func TestAskOfNothing(t *testing.T) {
	good := change(1, 1, mkdir("/a"))
	wrong := []record.Message{{}, {Kind: -1, Client: 1}, {Kind: 18, Client: 1}, {Kind: math.MaxInt, Client: 1}, {Kind: math.MinInt, Client: 1}}
	for _, client := range []int{0, -1, math.MinInt} {
		wrong = append(wrong, change(client, 1, mkdir("/a")), look(client, 1, "/"), list(client, 1, "/"), record.Of(client, 1, 2, mkdir("/a")))
	}
	for _, m := range []record.Message{good, look(1, 1, "/"), list(1, 1, "/")} {
		one, two, three, four := m, m, m, m
		one.N, two.T, three.T = append(slices.Clone(m.N), 1), append(slices.Clone(m.T), "/"), m.T[1:]
		if len(m.N) > 0 {
			four.N = m.N[1:]
			wrong = append(wrong, four)
		}
		wrong = append(wrong, one, two, three)
	}
	for kind := record.Answer; kind <= record.Pairs; kind++ {
		for numbers := range 12 {
			for texts := range 3 { // all shapes, a Change's and a Look's among them
				wrong = append(wrong, record.Message{Kind: kind, Client: 1, Call: 1, N: slices.Repeat([]int{1}, numbers), T: slices.Repeat([]string{"/"}, texts)})
			}
		}
	}
	n, d := fresh(t)
	empty := state{Clean: true, Entries: tree.New().Entries()}
	for _, m := range wrong {
		wantAsk(t, n, m)
		wantState(t, "nothing", n, empty)
	}
	wantFiles(t, "nothing", d)
	wantAsk(t, n, good) // the call wasn't begun
	for _, m := range wrong {
		wantAsk(t, n, m)
		if n.Waiting() != 1 {
			t.Fatalf("%v waits", m)
		}
	}
	wantSync(t, n, answer(1, 1, api.OK))
}

// P12.2: Look
func TestLook(t *testing.T) {
	n, _ := fresh(t)
	sums := []uint32{0, 7, math.MaxUint32}
	ops := []tree.Op{
		mkdir("/a"),
		{Kind: tree.Limit, Path: "/a", Quota: 9},
		mkdir("/a/b"),
		{Kind: tree.Create, Path: "/f", Client: 31},
		{Kind: tree.Create, Path: "/g", Client: 32},
		{Kind: tree.Close, Path: "/g", Client: 32},
	}
	for i, sum := range sums {
		ops = append(ops, tree.Op{Kind: tree.Add, Path: "/f", Client: 31, Piece: api.Piece{Block: api.Block{Client: 40 + i, Call: 50 + i, Try: -60 - i}, Size: 100 + i, Sum: sum}})
	}
	for i, op := range ops {
		made(t, n, 1, i+1, op)
	}
	wantAsk(t, n, look(1, 99, "/"), answer(1, 99, api.OK, 1, 0, 0, 0, 4, 0))
	wantAsk(t, n, look(2, -5, "/a"), answer(2, -5, api.OK, 1, 0, 0, 9, 1, 0))
	wantAsk(t, n, look(math.MaxInt, math.MinInt, "/a/b"), answer(math.MaxInt, math.MinInt, api.OK, 1, 0, 0, 0, 0, 0))
	wantAsk(t, n, look(1, 1, "/f"), answer(1, 1, api.OK, 0, 1, 31, 0, 0, 303,
		40, 50, -60, 100, 0,
		41, 51, -61, 101, 7,
		42, 52, -62, 102, math.MaxUint32))
	wantAsk(t, n, look(1, 1, "/g"), answer(1, 1, api.OK, 0, 0, 0, 0, 0, 0))
	wantAsk(t, n, look(1, 1, "/h"), answer(1, 1, api.ErrNoEnt))
	wantAsk(t, n, look(1, 1, "/f/x"), answer(1, 1, api.ErrNotDir))
	wantAsk(t, n, look(1, 1, "a"), answer(1, 1, api.ErrPath))
	wantAsk(t, n, look(1, 1, ""), answer(1, 1, api.ErrPath))
}

// P12.2: Names
func TestNames(t *testing.T) {
	n, _ := fresh(t)
	wantAsk(t, n, list(1, 1, "/"), answer(1, 1, api.OK))
	for i, path := range []string{"/b", "/a", "/a/y", "/a/x", "/a/x/z"} {
		made(t, n, 1, i+1, mkdir(path))
	}
	made(t, n, 1, 9, tree.Op{Kind: tree.Create, Path: "/a.f", Client: 1})
	wantAsk(t, n, list(1, 1, "/"), told(answer(1, 1, api.OK), "a", "a.f", "b"))
	wantAsk(t, n, list(2, -1, "/a"), told(answer(2, -1, api.OK), "x", "y"))
	wantAsk(t, n, list(2, 0, "/b"), answer(2, 0, api.OK))
	wantAsk(t, n, list(2, 0, "/a.f"), answer(2, 0, api.ErrNotDir))
	wantAsk(t, n, list(2, 0, "/c"), answer(2, 0, api.ErrNoEnt))
	wantAsk(t, n, list(2, 0, "/a/"), answer(2, 0, api.ErrPath))
}

// P12.2: questions may be asked as often as one likes, and begin no call.
func TestQuestionsAreNoCalls(t *testing.T) {
	n, _ := fresh(t)
	for range 3 {
		wantAsk(t, n, look(1, 9, "/"), answer(1, 9, api.OK, 1, 0, 0, 0, 0, 0))
		wantAsk(t, n, list(1, 8, "/"), answer(1, 8, api.OK))
	}
	made(t, n, 1, 1, mkdir("/a"))
}

// P12.2: a change of another boot changes nothing, and is told so at once, also where answers wait.
func TestStale(t *testing.T) {
	n, d := fresh(t)
	for _, boot := range []int{0, 2, -1, math.MinInt, math.MaxInt} {
		wantAsk(t, n, record.Of(1, 7, boot, mkdir("/a")), answer(1, 7, api.ErrStale))
	}
	wantState(t, "stale", n, state{Clean: true, Entries: tree.New().Entries()})
	wantFiles(t, "stale", d)
	wantAsk(t, n, change(1, 5, mkdir("/a"))) // call 7 wasn't begun
	wantAsk(t, n, record.Of(1, 5, 2, mkdir("/a")), answer(1, 5, api.ErrStale))
	wantAsk(t, n, record.Of(1, 6, 2, tree.Op{Kind: tree.Expire}), answer(1, 6, api.ErrStale))
	wrongSum := record.Of(1, 6, 2, mkdir("/b"))
	wrongSum.N[6] = -1
	wantAsk(t, n, wrongSum, answer(1, 6, api.ErrStale))
	wantSync(t, n, answer(1, 5, api.OK))
	wantAsk(t, n, record.Of(1, 5, 0, mkdir("/a")), answer(1, 5, api.ErrStale)) // though it's known
	wantAsk(t, n, change(1, 5, mkdir("/a")), answer(1, 5, api.OK))
}

// P12.2: the boot in the answers is the node's.
func TestBoot(t *testing.T) {
	for _, boot := range []int{1, 2, 77, math.MaxInt} {
		n := opened(t, disk.New(roomy), boot, 0)
		for _, m := range []record.Message{look(1, 1, "/"), look(1, 1, ""), list(1, 1, "/"), record.Of(1, 1, boot-1, mkdir("/a")), record.Of(1, 1, boot, mkdir("/"))} {
			if a := n.Ask(m); len(a) != 1 || a[0].N[1] != boot {
				t.Errorf("Ask(%v) in boot %d: %v", m, boot, a)
			}
		}
		n.Ask(record.Of(1, 2, boot, mkdir("/a")))
		if a := n.Sync(); len(a) != 1 || a[0].N[1] != boot {
			t.Errorf("Sync in boot %d: %v", boot, a)
		}
	}
}

// P12.2: a call is busy till its answer is given, done from then on, and old behind a later one.
func TestAtMostOnce(t *testing.T) {
	n, d := fresh(t)
	m := change(1, 3, tree.Op{Kind: tree.Create, Path: "/f", Client: 1})
	wantAsk(t, n, m)
	wantAsk(t, n, m)
	wantAsk(t, n, change(1, 2, mkdir("/older")))
	wantAsk(t, n, change(1, 3, mkdir("/another"))) // the call's number counts, not what it asks
	wantSync(t, n, answer(1, 3, api.OK))
	wantSync(t, n)
	for range 3 {
		wantAsk(t, n, m, answer(1, 3, api.OK))
		wantAsk(t, n, change(1, 3, mkdir("/another")), answer(1, 3, api.OK))
		wantAsk(t, n, change(1, 2, mkdir("/older")))
	}
	wantFiles(t, "once", d, "edits-0-0", written(record.Of(1, 3, 0, tree.Op{Kind: tree.Create, Path: "/f", Client: 1})))
	wantAsk(t, n, change(2, 1, mkdir("/b"))) // another client's calls have nothing to do with it
	wantAsk(t, n, m, answer(1, 3, api.OK))   // at once, though a record doesn't last
	wantAsk(t, n, change(1, 4, mkdir("/c")))
	wantAsk(t, n, m)
	wantSync(t, n, answer(2, 1, api.OK), answer(1, 4, api.OK))
	wantAsk(t, n, m)
	wantPaths(t, "once", n, "/b", "/c", "/f")
	if n.Made() != 3 {
		t.Errorf("Made: %d", n.Made())
	}
}

// P12.2: a later call is begun while the answer of the one ahead waits: both are answered, the later one is known.
func TestLaterCallWhileOneWaits(t *testing.T) {
	n, _ := fresh(t)
	wantAsk(t, n, change(1, 1, mkdir("/a")))
	wantAsk(t, n, change(1, 2, mkdir("/a")))
	wantAsk(t, n, change(1, 1, mkdir("/a")))
	wantSync(t, n, answer(1, 1, api.OK), answer(1, 2, api.ErrExists))
	wantAsk(t, n, change(1, 1, mkdir("/a")))
	wantAsk(t, n, change(1, 2, mkdir("/a")), answer(1, 2, api.ErrExists))
	wantSeen(t, "a later call", n, image.Seen{Client: 1, Call: 1})
}

// P12.2: an error is the call's reply as well, whatever would be answered now.
func TestErrorsAreReplies(t *testing.T) {
	n, _ := fresh(t)
	m := change(1, 1, mkdir("/a/b"))
	wantAsk(t, n, m, answer(1, 1, api.ErrNoEnt))
	made(t, n, 2, 1, mkdir("/a"))
	wantAsk(t, n, m, answer(1, 1, api.ErrNoEnt))
	wantAsk(t, n, change(1, 1, mkdir("/c")), answer(1, 1, api.ErrNoEnt))
	made(t, n, 1, 2, mkdir("/a/b"))
	wantAsk(t, n, m)
	wantSeen(t, "errors", n, image.Seen{Client: 1, Call: 2}, image.Seen{Client: 2, Call: 1})
}

// P12.2: the codes of a change, in their order.
func TestCodes(t *testing.T) {
	n, d := fresh(t)
	made(t, n, 9, 1, tree.Op{Kind: tree.Create, Path: "/f", Client: 9})
	laid, _ := d.Read("edits-0-0")
	ahead := stateOf(n)
	with := func(m record.Message, at, number int) record.Message {
		m.N[at] = number
		return m
	}
	for i, c := range []struct {
		m    record.Message
		code api.Errno
	}{
		{with(change(1, 1, mkdir("/a")), 6, -1), api.ErrForm},
		{with(change(1, 1, mkdir("/a")), 6, math.MaxUint32+1), api.ErrForm},
		{with(change(1, 1, mkdir("/f")), 6, math.MinInt), api.ErrForm},                               // ahead of ErrExists
		{with(change(1, 1, tree.Op{Kind: tree.Expire, Path: "/f"}), 6, math.MaxInt), api.ErrForm},    // ahead of ErrArg
		{change(1, 1, tree.Op{Kind: tree.Expire, Path: "/f"}), api.ErrArg},                           // what layer 7 would take
		{change(1, 1, tree.Op{Kind: tree.Expire, Path: "/g"}), api.ErrArg},                           // ahead of ErrNoEnt
		{change(1, 1, tree.Op{Kind: 0, Path: "/a"}), api.ErrArg},                                     // no kind
		{change(1, 1, tree.Op{Kind: 9, Path: "/a"}), api.ErrArg},                                     // no kind
		{change(1, 1, tree.Op{Kind: tree.Mkdir, Path: "x"}), api.ErrPath},                            // layer 7's errors
		{change(1, 1, tree.Op{Kind: tree.Mkdir, Path: "/f"}), api.ErrExists},                         //
		{change(1, 1, tree.Op{Kind: tree.Close, Path: "/f", Client: 1}), api.ErrLease},               // the op's Client counts
		{change(1, 1, tree.Op{Kind: tree.Delete, Path: "/"}), api.ErrPath},                           //
		{change(1, 1, tree.Op{Kind: tree.Rename, Path: "/f", To: "/g"}), api.ErrOpen},                //
		{change(1, 1, tree.Op{Kind: tree.Limit, Path: "/f"}), api.ErrNotDir},                         //
		{change(1, 1, tree.Op{Kind: tree.Mkdir, Path: "/f", To: long(api.MaxFrame)}), api.ErrExists}, // ahead of ErrLong
		{change(1, 1, tree.Op{Kind: tree.Mkdir, Path: "/a", To: long(api.MaxFrame)}), api.ErrLong},   //
	} {
		c.m.Call = i + 1
		wantAsk(t, n, c.m, answer(1, i+1, c.code))
		wantAsk(t, n, c.m, answer(1, i+1, c.code))
		wantState(t, "an error", n, ahead)
		wantFiles(t, "an error", d, "edits-0-0", laid)
	}
}

func long(n int) string {
	return strings.Repeat("x", n)
}

// P12.2: the Client of the op and the Client that asks are two things.
func TestTwoClients(t *testing.T) {
	n, _ := fresh(t)
	made(t, n, 1, 1, tree.Op{Kind: tree.Create, Path: "/f", Client: 5})
	wantAsk(t, n, look(3, 0, "/f"), answer(3, 0, api.OK, 0, 1, 5, 0, 0, 0))
	made(t, n, 2, 1, tree.Op{Kind: tree.Close, Path: "/f", Client: 5})
	wantSeen(t, "two clients", n, image.Seen{Client: 1, Call: 1}, image.Seen{Client: 2, Call: 1})
}

// P12.2: the longest record that there may be is taken, and one byte more isn't.
func TestLongRecords(t *testing.T) {
	d := disk.New(roomy)
	n := opened(t, d, 1, 0)
	op := mkdir("/a")
	op.To = long(api.MaxFrame - 100)
	spare := api.MaxFrame - len(record.Encode(record.Of(1, 1, 0, op)))
	op.To = long(api.MaxFrame - 100 + spare + 1)
	wantAsk(t, n, change(1, 1, op), answer(1, 1, api.ErrLong))
	op.To = op.To[1:]
	made(t, n, 1, 2, op)
	n = opened(t, d, 2, 0)
	wantPaths(t, "a long record", n, "/a")
}

// P12.2: where there is no room for the record, nothing is changed.
func TestFull(t *testing.T) {
	room := len(written(record.Of(1, 1, 0, mkdir("/a"))))
	d := disk.New(2*room - 1)
	n := opened(t, d, 1, 0)
	wantAsk(t, n, change(1, 1, mkdir("/a")))
	wantAsk(t, n, change(1, 2, mkdir("/b")))
	if n.Made() != 1 || n.Waiting() != 2 {
		t.Errorf("Made %d, Waiting %d", n.Made(), n.Waiting())
	}
	wantSync(t, n, answer(1, 1, api.OK), answer(1, 2, api.ErrFull))
	wantAsk(t, n, change(1, 3, mkdir("/b")), answer(1, 3, api.ErrFull))
	wantAsk(t, n, change(1, 3, mkdir("/b")), answer(1, 3, api.ErrFull))
	wantState(t, "full", n, state{Made: 1, Clean: true, Seen: []image.Seen{{Client: 1, Call: 1}}, Entries: grown(t, mkdir("/a")).Entries()})
	wantFiles(t, "full", d, "edits-0-0", written(record.Of(1, 1, 0, mkdir("/a"))))
}

// P12.2: as long as a record doesn't last, all answers wait, and come in the order of the Asks; they tell what was when they were asked for.
func TestAnswersWait(t *testing.T) {
	n, d := fresh(t)
	wantAsk(t, n, look(5, 1, "/a"), answer(5, 1, api.ErrNoEnt)) // nothing was appended yet
	wantAsk(t, n, change(1, 1, mkdir("/a")))
	wantAsk(t, n, look(5, 1, "/a"))
	wantAsk(t, n, list(5, 2, "/"))
	wantAsk(t, n, list(5, 2, "/none"))
	wantAsk(t, n, change(2, 1, mkdir("/a")))
	wantAsk(t, n, change(2, 1, mkdir("/a"))) // busy
	wantAsk(t, n, change(3, 1, tree.Op{Kind: tree.Limit, Path: "/a", Quota: 4}))
	wantAsk(t, n, look(5, 1, "/a"))
	if n.Clean() || n.Waiting() != 7 || d.Pending() != 2 {
		t.Errorf("Clean %v, Waiting %d, Pending %d", n.Clean(), n.Waiting(), d.Pending())
	}
	wantSync(t, n,
		answer(1, 1, api.OK),
		answer(5, 1, api.OK, 1, 0, 0, 0, 0, 0),
		told(answer(5, 2, api.OK), "a"),
		answer(5, 2, api.ErrNoEnt),
		answer(2, 1, api.ErrExists),
		answer(3, 1, api.OK),
		answer(5, 1, api.OK, 1, 0, 0, 4, 0, 0),
	)
	if !n.Clean() || n.Waiting() != 0 || d.Pending() != 0 {
		t.Errorf("Clean %v, Waiting %d, Pending %d", n.Clean(), n.Waiting(), d.Pending())
	}
	wantSync(t, n)
	wantAsk(t, n, look(5, 1, "/a"), answer(5, 1, api.OK, 1, 0, 0, 4, 0, 0))
	wantAsk(t, n, change(2, 1, mkdir("/b")), answer(2, 1, api.ErrExists))
}

// P12.2: only the answer to a change is a call's reply, though a question may have its number.
func TestQuestionsThatWaitAreNoReplies(t *testing.T) {
	n, _ := fresh(t)
	wantAsk(t, n, change(2, 1, mkdir("/a")))
	wantAsk(t, n, look(1, 1, "/none"))
	wantAsk(t, n, list(1, 1, "/none"))
	wantAsk(t, n, change(1, 1, mkdir("/b")))
	wantAsk(t, n, look(1, 1, "/none"))
	wantSync(t, n, answer(2, 1, api.OK), answer(1, 1, api.ErrNoEnt), answer(1, 1, api.ErrNoEnt), answer(1, 1, api.OK), answer(1, 1, api.ErrNoEnt))
	wantAsk(t, n, change(1, 1, mkdir("/b")), answer(1, 1, api.OK))
}

// P12.4: a file is closed whoever holds it; the node's own change is no client's call.
func TestExpire(t *testing.T) {
	n, d := fresh(t)
	made(t, n, 1, 1, tree.Op{Kind: tree.Create, Path: "/f", Client: 5})
	for _, c := range []struct {
		path string
		code api.Errno
	}{{"", api.ErrPath}, {"f", api.ErrPath}, {"/", api.ErrIsDir}, {"/g", api.ErrNoEnt}, {"/f/g", api.ErrNotDir}} {
		want(t, c.path, n.Expire(c.path), c.code)
	}
	if !n.Clean() || n.Made() != 1 {
		t.Error("an error has changed something")
	}
	want(t, "Expire", n.Expire("/f"), api.OK)
	if n.Clean() || n.Made() != 2 || n.Waiting() != 0 {
		t.Errorf("Clean %v, Made %d, Waiting %d", n.Clean(), n.Made(), n.Waiting())
	}
	want(t, "Expire again", n.Expire("/f"), api.ErrLease)
	wantAsk(t, n, look(1, 1, "/f"))
	wantSync(t, n, answer(1, 1, api.OK, 0, 0, 0, 0, 0, 0))
	wantFiles(t, "Expire", d, "edits-0-0", written(
		record.Of(1, 1, 0, tree.Op{Kind: tree.Create, Path: "/f", Client: 5}),
		record.Of(0, 0, 0, tree.Op{Kind: tree.Expire, Path: "/f"})))
	wantSeen(t, "Expire", n, image.Seen{Client: 1, Call: 1})
	n = opened(t, d, 2, 0)
	wantSeen(t, "opened again", n, image.Seen{Client: 1, Call: 1})
	if e := n.Entries(); len(e) != 2 || e[1].Open || e[1].Holder != 0 {
		t.Errorf("opened again: %v", e)
	}
}

// P12.4: where there is no room for its record the file stays open.
func TestExpireOnFullDisk(t *testing.T) {
	create := record.Of(1, 1, 0, tree.Op{Kind: tree.Create, Path: "/f", Client: 5})
	room := len(written(create))
	d := disk.New(2*room - 1)
	n := opened(t, d, 1, 0)
	made(t, n, 1, 1, tree.Op{Kind: tree.Create, Path: "/f", Client: 5})
	ahead := stateOf(n)
	want(t, "Expire", n.Expire("/f"), api.ErrFull)
	want(t, "no file", n.Expire("/g"), api.ErrNoEnt)
	wantState(t, "full", n, ahead)
	wantFiles(t, "full", d, "edits-0-0", written(create))
}

// P12.4: a call with an error isn't seen, nor does it take the place of the one ahead of it.
func TestSeen(t *testing.T) {
	n, _ := fresh(t)
	wantSeen(t, "nothing", n)
	wantAsk(t, n, change(4, 1, mkdir("/a/b")), answer(4, 1, api.ErrNoEnt))
	wantSeen(t, "an error", n)
	wantAsk(t, n, change(300, -7, mkdir("/a")))
	wantSeen(t, "it doesn't last yet", n, image.Seen{Client: 300, Call: -7})
	wantAsk(t, n, change(2, 5, mkdir("/b")))
	wantAsk(t, n, change(300, 0, mkdir("/b")))
	wantAsk(t, n, change(10, 5, mkdir("/c")))
	all := []image.Seen{{Client: 2, Call: 5}, {Client: 10, Call: 5}, {Client: 300, Call: -7}}
	wantSeen(t, "three", n, all...)
	n.Sync()
	wantSeen(t, "three", n, all...)
	made(t, n, 300, 1, mkdir("/d"))
	all[2].Call = 1
	wantSeen(t, "three", n, all...)
}

// P12.5
func TestNil(t *testing.T) {
	var n *names.Node
	for _, m := range []record.Message{{}, change(1, 1, mkdir("/a")), look(1, 1, "/"), list(1, 1, "/")} {
		wantAsk(t, n, m)
	}
	wantSync(t, n)
	want(t, "Expire", n.Expire("/f"), api.ErrArg)
	wantState(t, "nil", n, state{})
}

// A rule of all layers: what was handed in isn't changed and not kept, and an answer is new memory.
func TestMemory(t *testing.T) {
	n, _ := fresh(t)
	made(t, n, 1, 1, tree.Op{Kind: tree.Create, Path: "/f", Client: 1})
	made(t, n, 1, 2, tree.Op{Kind: tree.Add, Path: "/f", Client: 1, Piece: api.Piece{Size: 5}})
	m := change(1, 3, mkdir("/a"))
	m.N, m.T = append(m.N, 99)[:9], append(m.T, "behind")[:2]
	ahead := record.Message{Kind: m.Kind, Client: m.Client, Call: m.Call, N: slices.Clone(m.N[:10]), T: slices.Clone(m.T[:3])}
	wantAsk(t, n, m)
	m.N, m.T = m.N[:10], m.T[:3]
	wantSame(t, "what was handed in", m, ahead)
	m.N[0], m.T[0] = 77, "/x"
	wantAsk(t, n, look(2, 1, "/f"))
	wantAsk(t, n, list(2, 1, "/"))
	for _, a := range n.Sync() {
		spoil(a)
	}
	for range 2 { // what is answered again isn't what was answered first
		for _, a := range []record.Message{change(1, 3, mkdir("/a")), look(2, 1, "/f"), list(2, 1, "/"), record.Of(1, 3, 9, mkdir("/a")), look(2, 1, "/none")} {
			for _, a := range n.Ask(a) {
				spoil(a)
			}
		}
		for _, e := range n.Entries() {
			for i := range e.Pieces {
				e.Pieces[i].Size = 77
			}
		}
		n.Entries()[0].Path = "spoilt"
		n.Seen()[0].Client = 77
	}
	wantAsk(t, n, change(1, 3, mkdir("/a")), answer(1, 3, api.OK))
	wantAsk(t, n, look(2, 1, "/f"), answer(2, 1, api.OK, 0, 1, 1, 0, 0, 5, 0, 0, 0, 5, 0))
	wantAsk(t, n, list(2, 1, "/"), told(answer(2, 1, api.OK), "a", "f"))
	wantSeen(t, "memory", n, image.Seen{Client: 1, Call: 3})
}

// spoil writes over all that an answer has.
func spoil(m record.Message) {
	for i := range m.N {
		m.N[i] = 77
	}
	for i := range m.T {
		m.T[i] = "spoilt"
	}
	_ = append(m.N[:0], 78)
}
