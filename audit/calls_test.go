package audit_test

import (
	"math"
	"slices"
	"testing"

	"mahout/api"
	"mahout/audit"
	"mahout/tree"
)

// addPiece is an Add of a piece of that size.
func addPiece(path string, size int) tree.Op {
	op := add(path)
	op.Piece.Size = size
	return op
}

// The chapter's example.
func TestExample(t *testing.T) {
	changes := []audit.Change{change(1, create("/f")), adding(3, "/f", "ab")}
	wantRight(t, changes, read(2, 4, 2, "/f", "ab"))
	wantRight(t, changes, read(2, 4, 1, "/f", ""))
	wantWrong(t, "data", changes, read(2, 4, 1, "/f", "ab"))
	wantWrong(t, "time", changes, read(4, 5, 1, "/f", ""))
}

// P24.1: `kind`, ahead of all else, also of a call that wasn't answered.
func TestKind(t *testing.T) {
	for _, kind := range []int{0, -1, 4, math.MinInt, math.MaxInt} {
		wantWrong(t, "kind", nil,
			audit.Call{Kind: kind}, audit.Call{Kind: kind, At: -1}, audit.Call{Kind: kind, Done: true},
			audit.Call{Kind: kind, Done: true, Start: 2, End: 1}, audit.Call{Kind: kind, Done: true, Code: api.ErrTimeout}, audit.Call{Kind: kind, Done: true, Code: 9, At: 9})
	}
}

// P24.1: of a Read or a List that wasn't answered, and of a Write of which nothing came, nothing is asked.
func TestUnanswered(t *testing.T) {
	changes := []audit.Change{change(5, mkdir("/a"))}
	for _, at := range []int{-1, 0, 1, 2, math.MinInt, math.MaxInt} {
		for _, c := range []audit.Call{read(9, 1, at, "no path", "x"), list(9, 1, at, "/", "b"), readCode(9, 1, at, "/", 99)} {
			c.Done = false
			wantRight(t, changes, c, c)
		}
	}
	for _, op := range []tree.Op{mkdir("/a"), mkdir("/b"), {}} {
		c := pending(9, -1, op)
		c.End, c.Code, c.Data, c.Names, c.Client = 1, 99, "x", []string{"x"}, 77
		wantRight(t, changes, c, c, pending(from0, -1, op), pending(to9, -1, op))
	}
}

// threeChanges: two of client 1, one of client 2.
func threeChanges() []audit.Change {
	return []audit.Change{change(10, create("/f")), changeOf(2, 20, mkdir("/d")), adding(30, "/f", "ab")}
}

// P24.1: a Write that wasn't answered, but was made.
func TestUnansweredButMade(t *testing.T) {
	changes := threeChanges()
	c := pending(30, 2, add("/f"))
	c.Data = "ab"
	c.End, c.Code, c.Names = 7, 99, []string{"x"} // of what it wasn't told nothing is asked
	wantRight(t, changes, c)
	wantRight(t, changes, pending(10, 0, create("/f")), c)
	wantRight(t, changes, pending(from0, 0, create("/f")))
	c.Start = 31
	wantWrong(t, "time", changes, c, pending(11, 0, create("/f")), pending(to9, 0, create("/f")))
	for _, at := range []int{3, 4, -2, math.MinInt, math.MaxInt} {
		wantWrong(t, "place", changes, pending(from0, at, create("/f")))
	}
	for _, wrong := range notMade() {
		wrong.Done = false
		wantWrong(t, "other", changes, wrong)
		wrong.Start = to9 // `other` is named ahead of `time`
		wantWrong(t, "other", changes, wrong)
	}
}

// notMade are writes that name changes of threeChanges that aren't theirs.
func notMade() []audit.Call {
	two := func(c audit.Call, client int) audit.Call {
		c.Client = client
		return c
	}
	to := mkdir("/d")
	to.To = "/x"
	quota := mkdir("/d")
	quota.Quota = 1
	return []audit.Call{
		write(0, 99, 0, mkdir("/f")), write(0, 99, 0, create("/g")), write(0, 99, 0, create("/f/")), write(0, 99, 0, tree.Op{}), write(0, 99, 0, mkdir("/d")),
		two(write(0, 99, 0, create("/f")), 2), two(write(0, 99, 0, create("/f")), 0),
		write(0, 99, 1, mkdir("/d")), two(write(0, 99, 1, to), 2), two(write(0, 99, 1, quota), 2),
		write(0, 99, 1, create("/f")), write(0, 99, 2, create("/f")),
		writeData(0, 99, 2, "/f", "a"), writeData(0, 99, 2, "/f", "abc"), writeData(0, 99, 2, "/f", ""), writeData(0, 99, 2, "/f", "ba"), two(writeData(0, 99, 2, "/f", "ab"), 2),
	}
}

// P24.1: a Write that was done names its change, and the change lies between its beginning and its end.
func TestMade(t *testing.T) {
	changes := threeChanges()
	of2 := write(20, 20, 1, mkdir("/d"))
	of2.Client = 2
	wantRight(t, changes, write(10, 10, 0, create("/f")), of2, writeData(30, 30, 2, "/f", "ab"))
	wantRight(t, changes, writeData(from0, to9, 2, "/f", "ab"), of2, write(from0, to9, 0, create("/f")))
	for _, at := range []int{-1, -2, 3, 4, math.MinInt, math.MaxInt} {
		wantWrong(t, "place", changes, write(from0, to9, at, create("/f")))
	}
	wantWrong(t, "place", nil, write(0, 0, 0, mkdir("/d")))
	wantWrong(t, "time", changes, write(11, 12, 0, create("/f")), write(0, 9, 0, create("/f")), write(from0, from0, 0, create("/f")), write(to9, to9, 0, create("/f")), writeData(31, 31, 2, "/f", "ab"), writeData(29, 29, 2, "/f", "ab"))
	wantWrong(t, "other", changes, notMade()...)
	for _, wrong := range notMade() {
		wrong.Start = 99 // `other` is named ahead of `time`
		wantWrong(t, "other", changes, wrong)
	}
}

// P24.1: of the Op of a Write that was done the piece and the Client count for nothing, nor does the data of another kind than Add.
func TestMadeWhatDoesNotCount(t *testing.T) {
	c := writeData(0, 99, 2, "/f", "ab")
	c.Op.Piece, c.Op.Client, c.Names = api.Piece{Size: 77, Sum: 5}, 9, []string{"x"}
	made := write(0, 99, 0, create("/f"))
	made.Op.Piece, made.Op.Client, made.Data = pieceOf("abc"), 9, "abc"
	wantRight(t, threeChanges(), c, made)
	made.Done = false
	c.Done = false
	wantRight(t, threeChanges(), c, made)
}

// P24.1: all fields of the Op are held against each other, also of kinds that don't lean on them.
func TestMadeOfAllKinds(t *testing.T) {
	changes := []audit.Change{change(1, mkdir("/d")), change(2, limit("/d", 5)), change(3, rename("/d", "/e")), change(4, create("/f")), adding(5, "/f", "ab"), change(6, shut("/f")), change(7, remove("/f"))}
	var calls []audit.Call
	for i, c := range changes {
		call := write(i+1, i+1, i, c.Op)
		call.Data = c.Data
		calls = append(calls, call)
	}
	wantRight(t, changes, calls...)
	slices.Reverse(calls)
	wantRight(t, changes, calls...)
	for _, c := range calls {
		for i := range 4 {
			wrong := c
			switch i {
			case 0:
				wrong.Op.Kind = tree.Expire
			case 1:
				wrong.Op.Path += "x"
			case 2:
				wrong.Op.To += "x"
			case 3:
				wrong.Op.Quota++
			}
			wantWrong(t, "other", changes, wrong)
		}
	}
}

// P24.1: `twice`, by both kinds of writes that name a change.
func TestTwice(t *testing.T) {
	changes := threeChanges()
	done, open := write(10, 10, 0, create("/f")), pending(10, 0, create("/f"))
	for _, pair := range [][]audit.Call{{done, done}, {done, open}, {open, done}, {open, open}} {
		wantVerdict(t, changes, pair, 1, "twice")
		wantVerdict(t, changes, []audit.Call{writeData(0, 99, 2, "/f", "ab"), pair[0], list(0, 10, 0, "/"), pair[1], pair[1]}, 3, "twice")
	}
	never := pending(10, -1, create("/f"))
	failed := refused(10, 10, 0, create("/f"), api.ErrTimeout)
	between := refused(10, 10, 1, create("/f"), api.ErrExists)
	wantRight(t, changes, never, failed, failed, between, between, list(0, 10, 0, "/"), readCode(0, 10, 0, "/f", api.ErrNoEnt), done, never, failed, between)
}

// P24.1: of a write that was done `time` is named ahead of `twice`, of one that wasn't answered `twice` ahead of `time`.
func TestTwiceOrTime(t *testing.T) {
	changes := threeChanges()
	first := write(10, 10, 0, create("/f"))
	wantVerdict(t, changes, []audit.Call{first, write(11, 12, 0, create("/f"))}, 1, "time")
	wantVerdict(t, changes, []audit.Call{first, pending(11, 0, create("/f"))}, 1, "twice")
	wantVerdict(t, changes, []audit.Call{first, write(10, 10, 0, create("/g"))}, 1, "other")
	wantVerdict(t, changes, []audit.Call{first, pending(10, 0, create("/g"))}, 1, "other")
}

// P24.1: `span`, ahead of the code, of all calls that were answered.
func TestSpan(t *testing.T) {
	changes := threeChanges()
	wantWrong(t, "span", changes,
		write(10, 9, 0, create("/f")), write(to9, from0, 77, create("/x")), read(11, 10, 1, "/f", ""), list(11, 10, 99, "/x"), refused(11, 10, 1, create("/f"), api.ErrExists),
		readCode(1, 0, 0, "/", api.ErrTimeout), listCode(1, 0, 0, "/", api.ErrUnavailable), refused(1, 0, 0, mkdir("/"), api.ErrFull))
}

// P24.1: of a call that was given up, or couldn't be done then, nothing is asked but its kind and its span.
func TestGivenUp(t *testing.T) {
	for _, code := range []api.Errno{api.ErrTimeout, api.ErrUnavailable, api.ErrFull} {
		for _, at := range []int{-1, 0, 1, 2, 3, 4, 99, math.MinInt, math.MaxInt} {
			wantRight(t, threeChanges(), refused(15, 15, at, create("/f"), code), refused(99, 99, at, tree.Op{}, code), readCode(0, 0, at, "no path", code), listCode(99, 99, at, "/f", code), read(10, 10, 1, "/f", ""))
		}
	}
	for _, code := range []api.Errno{api.ErrLong, api.ErrStale, api.ErrGone, api.ErrBad, 199, 202, 39} {
		wantWrong(t, "place", threeChanges(), refused(15, 15, -1, create("/f"), code), readCode(15, 15, 4, "/", code))
		wantWrong(t, "code", threeChanges(), refused(15, 15, 1, create("/f"), code), readCode(15, 15, 1, "/", code), listCode(15, 15, 1, "/", code))
	}
}

// P24.1: `place` and `time` of all that has made no change: it was done behind so many changes.
func TestBetween(t *testing.T) {
	changes := threeChanges()
	at := func(start, end, at int) []audit.Call {
		code := api.ErrNoEnt
		if at == 2 || at == 3 { // /d is there
			code = api.ErrIsDir
		}
		return []audit.Call{readCode(start, end, at, "/d", code), refused(start, end, at, mkdir("/x/y"), api.ErrNoEnt), listCode(start, end, at, "/y", api.ErrNoEnt)}
	}
	for _, c := range [][3]int{
		{from0, from0, 0}, {10, 10, 0}, {10, to9, 0}, {0, 5, 0}, {10, 10, 1}, {20, 20, 1}, {15, 15, 1}, {from0, to9, 1}, {20, 25, 2}, {30, 30, 2}, {25, 25, 2},
		{30, 30, 3}, {to9, to9, 3}, {0, 30, 3},
	} {
		wantRight(t, changes, at(c[0], c[1], c[2])...)
	}
	for _, c := range [][3]int{{11, 11, 0}, {to9, to9, 0}, {21, 30, 1}, {0, 9, 1}, {from0, from0, 1}, {0, 19, 2}, {31, 31, 2}, {0, 29, 3}, {from0, 0, 3}} {
		wantWrong(t, "time", changes, at(c[0], c[1], c[2])...)
	}
	for _, n := range []int{-1, -2, 4, 5, math.MinInt, math.MaxInt} {
		wantWrong(t, "place", changes, at(from0, to9, n)...)
	}
	wantRight(t, nil, at(from0, to9, 0)...)
	wantWrong(t, "place", nil, at(0, 0, 1)...)
}

// P24.1: of steps that are alike each change may be the last one that was seen.
func TestBetweenInOneStep(t *testing.T) {
	changes := []audit.Change{change(5, mkdir("/a")), change(5, mkdir("/b")), change(5, mkdir("/c"))}
	wantRight(t, changes, list(5, 5, 0, "/"), list(5, 5, 3, "/", "a", "b", "c"), list(5, 5, 1, "/", "a"), list(5, 9, 2, "/", "a", "b"), list(0, 4, 0, "/"), list(6, 6, 3, "/", "a", "b", "c"))
	wantWrong(t, "time", changes, list(6, 6, 0, "/"), list(6, 6, 2, "/", "a", "b"), list(4, 4, 3, "/", "a", "b", "c"), list(4, 4, 1, "/", "a"))
}

// P24.1: the code of a Write that was refused, behind its changes and with its own Client.
func TestRefused(t *testing.T) {
	changes := []audit.Change{change(1, mkdir("/d")), change(2, create("/d/f")), adding(3, "/d/f", "ab"), change(4, limit("/d", 1)), change(5, shut("/d/f")), change(6, rename("/d/f", "/g"))}
	cases := []struct {
		op    tree.Op
		codes [7]api.Errno // behind so many changes
	}{
		{create("/d/f"), [7]api.Errno{api.ErrNoEnt, 0, api.ErrExists, api.ErrExists, api.ErrExists, api.ErrExists, 0}},
		{mkdir("/d/x"), [7]api.Errno{api.ErrNoEnt, 0, 0, 0, api.ErrQuota, api.ErrQuota, 0}},
		{shut("/d/f"), [7]api.Errno{api.ErrNoEnt, api.ErrNoEnt, 0, 0, 0, api.ErrLease, api.ErrNoEnt}},
		{addPiece("/d/f", 5), [7]api.Errno{api.ErrNoEnt, api.ErrNoEnt, 0, 0, 0, api.ErrLease, api.ErrNoEnt}},
		{addPiece("/d/f", 0), [7]api.Errno{api.ErrNoEnt, api.ErrNoEnt, api.ErrArg, api.ErrArg, api.ErrArg, api.ErrLease, api.ErrNoEnt}},
		{rename("/d", "/e"), [7]api.Errno{api.ErrNoEnt, 0, api.ErrOpen, api.ErrOpen, api.ErrOpen, 0, 0}},
		{rename("/d", "/d/x"), [7]api.Errno{api.ErrNoEnt, api.ErrInside, api.ErrInside, api.ErrInside, api.ErrInside, api.ErrInside, api.ErrInside}},
		{limit("/g", 1), [7]api.Errno{api.ErrNoEnt, api.ErrNoEnt, api.ErrNoEnt, api.ErrNoEnt, api.ErrNoEnt, api.ErrNoEnt, api.ErrNotDir}},
		{tree.Op{Kind: 9}, [7]api.Errno{api.ErrArg, api.ErrArg, api.ErrArg, api.ErrArg, api.ErrArg, api.ErrArg, api.ErrArg}},
		{remove("/"), [7]api.Errno{api.ErrPath, api.ErrPath, api.ErrPath, api.ErrPath, api.ErrPath, api.ErrPath, api.ErrPath}},
	}
	var all []audit.Call
	for _, c := range cases {
		for at, code := range c.codes {
			for _, told := range []api.Errno{api.ErrArg, api.ErrPath, api.ErrNoEnt, api.ErrExists, api.ErrNotDir, api.ErrQuota, api.ErrLease, api.ErrOpen, api.ErrInside, -1} {
				call := refused(from0, to9, at, c.op, told)
				if told == code {
					all = append(all, call)
				} else {
					wantWrong(t, "code", changes, call)
				}
			}
		}
	}
	wantRight(t, changes, all...)
	slices.Reverse(all) // the moments rise no more
	wantRight(t, changes, all...)
}

// P24.1: who asks is the Call's Client, whatever the Op's.
func TestRefusedClient(t *testing.T) {
	changes := []audit.Change{change(1, create("/f"))}
	own := refused(1, 1, 1, addPiece("/f", 1), api.ErrLease)
	own.Op.Client = 5
	wantWrong(t, "code", changes, own)
	other := refused(1, 1, 1, addPiece("/f", 1), api.ErrLease)
	other.Client, other.Op.Client = 5, 1
	wantRight(t, changes, other)
}

// P24.1: what a Read was told.
func TestRead(t *testing.T) {
	changes := []audit.Change{change(1, mkdir("/d")), change(1, create("/d/f")), adding(1, "/d/f", "ab"), change(1, create("/g")), adding(1, "/g", "ab"), adding(1, "/d/f", "\x00c"), adding(1, "/d/f", "ab")}
	for at, text := range []string{2: "", 3: "ab", 4: "ab", 5: "ab", 6: "ab\x00c", 7: "ab\x00cab"} {
		if at < 2 {
			wantRight(t, changes, readCode(1, 1, at, "/d/f", api.ErrNoEnt))
			wantWrong(t, "code", changes, read(1, 1, at, "/d/f", ""), readCode(1, 1, at, "/d/f", api.ErrIsDir))
			continue
		}
		wantRight(t, changes, read(1, 1, at, "/d/f", text))
		wantWrong(t, "data", changes, read(1, 1, at, "/d/f", text+"a"), read(1, 1, at, "/d/f", "a"+text), read(1, 1, at, "/d/f", text+text+"x"), read(1, 1, at, "/d/f", "ba\x00cab"), read(1, 1, at, "/d/f", "ab\x00"))
		wantWrong(t, "code", changes, readCode(1, 1, at, "/d/f", api.ErrNoEnt), readCode(1, 1, at, "/d/f", api.ErrIsDir), readCode(1, 1, at, "/d/f", api.ErrBad))
		if text != "" {
			wantWrong(t, "data", changes, read(1, 1, at, "/d/f", ""), read(1, 1, at, "/d/f", text[:len(text)-1]), read(1, 1, at, "/d/f", text[1:]))
		}
	}
	end := len(changes)
	for path, code := range map[string]api.Errno{"/": api.ErrIsDir, "/d": api.ErrIsDir, "/x": api.ErrNoEnt, "/d/x": api.ErrNoEnt, "/g/x": api.ErrNotDir, "/x/y": api.ErrNoEnt, "d": api.ErrPath, "": api.ErrPath, "/d/": api.ErrPath} {
		told := readCode(1, 1, end, path, code)
		wantRight(t, changes, told)
		told.Data, told.Names, told.Client, told.Op = "x", []string{"y"}, -7, tree.Op{Kind: 77, Path: path, To: "to", Quota: -1} // beside an error nothing is asked of these
		wantRight(t, changes, told)
		for _, wrong := range []api.Errno{api.OK, api.ErrIsDir, api.ErrNoEnt, api.ErrNotDir, api.ErrPath, api.ErrArg, -5} {
			if wrong != code {
				wantWrong(t, "code", changes, readCode(1, 1, end, path, wrong))
			}
		}
	}
}

// P24.1: bytes go with their file, and a new file of that name has none of them.
func TestReadOfMovedFiles(t *testing.T) {
	changes := []audit.Change{
		change(0, mkdir("/d")), change(0, mkdir("/d/e")), change(0, create("/d/e/f")), adding(0, "/d/e/f", "one"), change(0, shut("/d/e/f")), // 5
		change(0, create("/d/g")), adding(0, "/d/g", "two"), change(0, shut("/d/g")), // 8
		change(0, rename("/d", "/m")),                           // 9
		change(0, rename("/m/e/f", "/d")),                       // 10
		change(0, create("/m/e/f")), adding(0, "/m/e/f", "new"), // 12
		change(0, remove("/m")),                   // 13
		change(0, create("/m")),                   // 14
		adding(0, "/m", "x"), adding(0, "/m", ""), // the last one is wrong
	}
	changes = changes[:len(changes)-1]
	wantRight(t, changes,
		read(0, 0, 15, "/m", "x"), read(0, 0, 14, "/m", ""), readCode(0, 0, 13, "/m", api.ErrNoEnt),
		read(0, 0, 12, "/m/e/f", "new"), read(0, 0, 12, "/d", "one"), read(0, 0, 12, "/m/g", "two"), read(0, 0, 11, "/m/e/f", ""), readCode(0, 0, 10, "/m/e/f", api.ErrNoEnt),
		read(0, 0, 9, "/m/e/f", "one"), read(0, 0, 9, "/m/g", "two"), readCode(0, 0, 9, "/d/g", api.ErrNoEnt), read(0, 0, 8, "/d/g", "two"), read(0, 0, 8, "/d/e/f", "one"), read(0, 0, 15, "/d", "one"))
	wantWrong(t, "data", changes, read(0, 0, 12, "/m/e/f", "one"), read(0, 0, 12, "/m/e/f", "onenew"), read(0, 0, 15, "/m", "two"), read(0, 0, 12, "/d", "new"))
	for n := range len(changes) + 1 {
		wantFiles(t, changes[:n], [][]string{
			3: {"/d/e/f", ""}, 4: {"/d/e/f", "one"}, 5: {"/d/e/f", "one"}, 6: {"/d/e/f", "one", "/d/g", ""}, 7: {"/d/e/f", "one", "/d/g", "two"}, 8: {"/d/e/f", "one", "/d/g", "two"},
			9: {"/m/e/f", "one", "/m/g", "two"}, 10: {"/d", "one", "/m/g", "two"}, 11: {"/d", "one", "/m/e/f", "", "/m/g", "two"}, 12: {"/d", "one", "/m/e/f", "new", "/m/g", "two"},
			13: {"/d", "one"}, 14: {"/d", "one", "/m", ""}, 15: {"/d", "one", "/m", "x"},
		}[n]...)
	}
}

// P24.1: two changes may tell of the same piece, and even of the same one with other bytes: each file has the bytes of its own changes.
func TestReadOfAlikePieces(t *testing.T) {
	changes := []audit.Change{change(0, create("/a")), change(0, create("/b")), adding(0, "/a", "one"), adding(0, "/b", "three"), adding(0, "/a", "three"), adding(0, "/b", "one")}
	wantRight(t, changes, read(0, 0, 6, "/a", "onethree"), read(0, 0, 6, "/b", "threeone"), read(0, 0, 4, "/a", "one"), read(0, 0, 4, "/b", "three"))
	wantWrong(t, "data", changes, read(0, 0, 6, "/a", "threeone"), read(0, 0, 6, "/b", "onethree"))

	x, y := "0\x01\x00\x00\x00\x00", "1\x00t\x1b\xc9\xe1"
	if pieceOf(x) != pieceOf(y) {
		t.Fatalf("%q and %q have other sums", x, y)
	}
	changes = []audit.Change{change(0, create("/a")), change(0, create("/b")), adding(0, "/a", x), adding(0, "/b", y)}
	wantRight(t, changes, read(0, 0, 4, "/a", x), read(0, 0, 4, "/b", y), writeData(0, 0, 2, "/a", x), writeData(0, 0, 3, "/b", y))
	wantWrong(t, "data", changes, read(0, 0, 4, "/a", y), read(0, 0, 4, "/b", x))
	wantWrong(t, "other", changes, writeData(0, 0, 2, "/a", y))
	wantFiles(t, changes, "/a", x, "/b", y)
}

// P24.1: what a List was told.
func TestList(t *testing.T) {
	changes := []audit.Change{change(0, mkdir("/b")), change(0, create("/a")), change(0, mkdir("/b/x")), change(0, remove("/b/x")), change(0, rename("/b", "/0"))}
	wantRight(t, changes,
		list(0, 0, 0, "/"), list(0, 0, 1, "/", "b"), list(0, 0, 2, "/", "a", "b"), list(0, 0, 5, "/", "0", "a"), list(0, 0, 3, "/b", "x"), list(0, 0, 4, "/b"), list(0, 0, 5, "/0"),
		listCode(0, 0, 0, "/b", api.ErrNoEnt), listCode(0, 0, 5, "/b", api.ErrNoEnt), listCode(0, 0, 2, "/a", api.ErrNotDir), listCode(0, 0, 2, "/a/x", api.ErrNotDir), listCode(0, 0, 2, "a", api.ErrPath))
	wantWrong(t, "names", changes,
		list(0, 0, 0, "/", ""), list(0, 0, 1, "/"), list(0, 0, 2, "/", "b", "a"), list(0, 0, 2, "/", "a"), list(0, 0, 2, "/", "a", "b", "b"), list(0, 0, 2, "/", "/a", "/b"), list(0, 0, 4, "/b", "x"), list(0, 0, 3, "/b", "X"))
	wantWrong(t, "code", changes,
		list(0, 0, 0, "/b"), listCode(0, 0, 1, "/b", api.ErrNoEnt), listCode(0, 0, 2, "/a", api.ErrIsDir), list(0, 0, 2, "/a"), list(0, 0, 2, "/a/x"), listCode(0, 0, 2, "a", api.ErrNoEnt), listCode(0, 0, 2, "/", api.ErrIsDir))
	told := listCode(0, 0, 2, "/a", api.ErrNotDir)
	told.Names, told.Data, told.Client, told.Op = []string{"x"}, "x", -7, tree.Op{Kind: 77, Path: "/a", To: "to", Quota: -1} // beside an error nothing is asked of these
	wantRight(t, changes, told)
	told = list(0, 0, 2, "/", "a", "b")
	told.Data, told.Client, told.Op = "x", -7, tree.Op{Kind: 77, Path: "/", To: "to", Quota: -1}
	wantRight(t, changes, told)
}

// P24.1: the first call that is wrong, whatever is wrong with it, wherever its moment is.
func TestFirstWrongCall(t *testing.T) {
	changes := threeChanges()
	wrong := []struct {
		call audit.Call
		why  string
	}{
		{audit.Call{Kind: 9}, "kind"}, {write(2, 1, 0, create("/f")), "span"}, {pending(0, 3, create("/f")), "place"}, {write(0, 99, 0, create("/g")), "other"},
		{write(50, 99, 0, create("/f")), "time"}, {read(0, 99, 3, "/x", ""), "code"}, {read(0, 99, 1, "/f", "ab"), "data"}, {list(0, 99, 2, "/"), "names"},
		{read(0, 99, 4, "/f", ""), "place"}, {list(31, 99, 2, "/"), "time"}, {refused(0, 99, 0, mkdir("/d"), api.ErrExists), "code"},
	}
	fine := []audit.Call{read(30, 99, 3, "/f", "ab"), list(0, 10, 0, "/"), list(0, 99, 2, "/", "d", "f")}
	for _, a := range wrong {
		for _, b := range wrong {
			calls := slices.Concat(fine, []audit.Call{a.call}, fine, []audit.Call{b.call}, fine)
			wantVerdict(t, changes, calls, len(fine), a.why)
		}
	}
}
