package audit_test

import (
	"fmt"
	"math"
	"slices"
	"testing"

	"mahout/api"
	"mahout/audit"
	"mahout/crc"
	"mahout/tree"
)

func mkdir(path string) tree.Op  { return tree.Op{Kind: tree.Mkdir, Path: path} }
func create(path string) tree.Op { return tree.Op{Kind: tree.Create, Path: path} }
func add(path string) tree.Op    { return tree.Op{Kind: tree.Add, Path: path} }
func shut(path string) tree.Op   { return tree.Op{Kind: tree.Close, Path: path} }
func remove(path string) tree.Op { return tree.Op{Kind: tree.Delete, Path: path} }
func expire(path string) tree.Op { return tree.Op{Kind: tree.Expire, Path: path} }

func rename(path, to string) tree.Op {
	return tree.Op{Kind: tree.Rename, Path: path, To: to}
}

func limit(path string, quota int) tree.Op {
	return tree.Op{Kind: tree.Limit, Path: path, Quota: quota}
}

// change is one of client 1.
func change(step int, op tree.Op) audit.Change {
	return changeOf(1, step, op)
}

func changeOf(client, step int, op tree.Op) audit.Change {
	op.Client = client
	return audit.Change{Step: step, Client: client, Op: op}
}

// adding is an Add of client 1, with the piece of these bytes. (Its block is always the same one: nothing hangs on it.)
func adding(step int, path, data string) audit.Change {
	c := change(step, add(path))
	c.Op.Piece, c.Data = pieceOf(data), data
	return c
}

func pieceOf(data string) api.Piece {
	return api.Piece{Block: api.Block{Client: 7, Call: 7, Try: 7}, Size: len(data), Sum: crc.Sum(data)}
}

// write is one of client 1 that was done, and made the change with that number.
func write(start, end, at int, op tree.Op) audit.Call {
	return audit.Call{Kind: audit.Write, Client: 1, Op: op, Start: start, End: end, Done: true, At: at}
}

func writeData(start, end, at int, path, data string) audit.Call {
	c := write(start, end, at, add(path))
	c.Data = data
	return c
}

// refused is a write of client 1 that was answered an error.
func refused(start, end, at int, op tree.Op, code api.Errno) audit.Call {
	c := write(start, end, at, op)
	c.Code = code
	return c
}

// pending is a write of client 1 that wasn't answered.
func pending(start, at int, op tree.Op) audit.Call {
	return audit.Call{Kind: audit.Write, Client: 1, Op: op, Start: start, At: at}
}

func read(start, end, at int, path, data string) audit.Call {
	return audit.Call{Kind: audit.Read, Client: 2, Op: tree.Op{Path: path}, Start: start, End: end, Done: true, At: at, Data: data}
}

func readCode(start, end, at int, path string, code api.Errno) audit.Call {
	c := read(start, end, at, path, "")
	c.Code = code
	return c
}

func list(start, end, at int, path string, names ...string) audit.Call {
	return audit.Call{Kind: audit.List, Client: 2, Op: tree.Op{Path: path}, Start: start, End: end, Done: true, At: at, Names: names}
}

func listCode(start, end, at int, path string, code api.Errno) audit.Call {
	c := list(start, end, at, path)
	c.Code = code
	return c
}

// from0 and to9 are a beginning and an end that nothing in these histories lies beyond.
const (
	from0 = math.MinInt
	to9   = math.MaxInt
)

// short writes a list so that a long one can still be read.
func short(list any) string {
	text := fmt.Sprintf("%+v", list)
	return text[:min(len(text), 1000)]
}

func wantVerdict(t *testing.T, changes []audit.Change, calls []audit.Call, number int, why string) {
	t.Helper()
	if got := audit.Check(changes, calls); got != (audit.Verdict{Number: number, Why: why}) {
		t.Errorf("Check(%s, %s): %v, not %d %q", short(changes), short(calls), got, number, why)
	}
}

// wantRight: nothing is wrong with these changes and calls.
func wantRight(t *testing.T, changes []audit.Change, calls ...audit.Call) {
	t.Helper()
	wantVerdict(t, changes, calls, 0, "")
}

// wantWrong: that is wrong with each of these calls, alone and behind a right one.
func wantWrong(t *testing.T, why string, changes []audit.Change, calls ...audit.Call) {
	t.Helper()
	fine := readCode(0, 0, 0, "no path", api.ErrUnavailable)
	for _, c := range calls {
		wantVerdict(t, changes, []audit.Call{c}, 0, why)
		wantVerdict(t, changes, []audit.Call{fine, fine, c, fine}, 2, why)
	}
}

// wantFiles: these are the files, of paths and bytes in turn.
func wantFiles(t *testing.T, changes []audit.Change, want ...string) {
	t.Helper()
	paths, texts := audit.Files(changes)
	var got []string
	for i := range min(len(paths), len(texts)) {
		got = append(got, paths[i], texts[i])
	}
	if len(paths) != len(texts) || !slices.Equal(got, want) {
		t.Errorf("Files(%s): %s, not %s", short(changes), short(got), short(want))
	}
}
