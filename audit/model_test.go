package audit_test

import (
	"maps"
	"math/rand"
	"slices"
	"strings"
	"testing"

	"mahout/api"
	"mahout/audit"
	"mahout/crc"
	"mahout/paths"
	"mahout/tree"
)

// world is what stands behind some changes, as the words tell it: the tree, and the bytes of each file by its path.
type world struct {
	tree  *tree.Tree
	bytes map[string]string
}

// behind goes through so many changes anew.
func behind(changes []audit.Change, n int) world {
	w := world{tree.New(), map[string]string{}}
	for _, c := range changes[:n] {
		w.make(c)
	}
	return w
}

func (w world) make(c audit.Change) api.Errno {
	e := w.tree.Apply(c.Op)
	if e != api.OK {
		return e
	}
	switch path := c.Op.Path; c.Op.Kind {
	case tree.Create:
		w.bytes[path] = ""
	case tree.Add:
		w.bytes[path] += c.Data
	case tree.Delete, tree.Rename:
		for p, text := range w.below(path) {
			delete(w.bytes, p)
			if c.Op.Kind == tree.Rename {
				w.bytes[c.Op.To+p[len(path):]] = text
			}
		}
	}
	return api.OK
}

// below: the files at a path and below it.
func (w world) below(path string) map[string]string {
	found := map[string]string{}
	for p, text := range w.bytes {
		if p == path || strings.HasPrefix(p, path+"/") {
			found[p] = text
		}
	}
	return found
}

// told: what a Read is to be told.
func (w world) told(path string) (string, api.Errno) {
	info, e := w.tree.Stat(path)
	if info.Dir {
		e = api.ErrIsDir
	}
	return w.bytes[path], e
}

// finding is something that may be wrong, and its word.
type finding struct {
	wrong bool
	why   string
}

// first: the word of the first that is wrong.
func first(list ...finding) string {
	for _, f := range list {
		if f.wrong {
			return f.why
		}
	}
	return ""
}

// judged is Check as the words tell it: for each change and each call all is done from the beginning.
func judged(changes []audit.Change, calls []audit.Call) audit.Verdict {
	for i, c := range changes {
		isAdd := c.Op.Kind == tree.Add
		why := first(
			finding{i > 0 && c.Step < changes[max(i, 1)-1].Step, "order"},
			finding{isAdd && (c.Op.Piece.Size != len(c.Data) || c.Op.Piece.Sum != crc.Sum(c.Data)), "change"},
			finding{!isAdd && c.Data != "", "change"},
			finding{behind(changes, i).make(c) != api.OK, "change"})
		if why != "" {
			return audit.Verdict{Number: i, Why: why}
		}
	}
	for i := range calls {
		if why := judgedCall(changes, calls, i); why != "" {
			return audit.Verdict{Number: i, Why: why}
		}
	}
	return audit.Verdict{}
}

// names: is it a Write that names a change?
func names(c audit.Call) bool {
	return c.Kind == audit.Write && (c.Done && c.Code == api.OK || !c.Done && c.At != -1)
}

func judgedCall(changes []audit.Change, calls []audit.Call, i int) string {
	c := calls[i]
	if c.Kind < 1 || c.Kind > 3 {
		return "kind"
	}
	if c.Done && c.End < c.Start {
		return "span"
	}
	if names(c) {
		if c.At < 0 || c.At > len(changes)-1 {
			return "place"
		}
		at := changes[c.At]
		op, asked := at.Op, c.Op
		op.Client, op.Piece, asked.Client, asked.Piece = 0, api.Piece{}, 0, api.Piece{}
		twice := slices.ContainsFunc(calls[:i], func(other audit.Call) bool { return names(other) && other.At == c.At })
		return first(
			finding{at.Client != c.Client || op != asked || op.Kind == tree.Add && at.Data != c.Data, "other"},
			finding{c.Done && (at.Step < c.Start || at.Step > c.End), "time"},
			finding{twice, "twice"},
			finding{at.Step < c.Start, "time"})
	}
	if !c.Done || slices.Contains([]api.Errno{api.ErrTimeout, api.ErrUnavailable, api.ErrFull}, c.Code) {
		return ""
	}
	if c.At < 0 || c.At > len(changes) {
		return "place"
	}
	if c.At > 0 && changes[c.At-1].Step > c.End || c.At < len(changes) && changes[c.At].Step < c.Start {
		return "time"
	}
	return judgedAnswer(behind(changes, c.At), c)
}

func judgedAnswer(w world, c audit.Call) string {
	fine := c.Code == api.OK
	switch c.Kind {
	case audit.Read:
		text, e := w.told(c.Op.Path)
		return first(finding{e != c.Code, "code"}, finding{fine && text != c.Data, "data"})
	case audit.List:
		names, e := w.tree.List(c.Op.Path)
		return first(finding{e != c.Code, "code"}, finding{fine && !slices.Equal(names, c.Names), "names"})
	}
	c.Op.Client = c.Client
	return first(finding{w.tree.Would(c.Op) != c.Code, "code"})
}

func pick[T any](r *rand.Rand, list ...T) T {
	return list[r.Intn(len(list))]
}

func anyPath(r *rand.Rand) string {
	return pick(r, "/a", "/b", "/f", "/f", "/g", "/a/f", "/a/f", "/a/g", "/b/f", "/a/b", "/a/b/f", "/", "no path")
}

// anyOp: so that directories grow full, files are long, and something is moved now and then.
func anyOp(r *rand.Rand) tree.Op {
	kinds := []int{tree.Mkdir, tree.Create, tree.Create, tree.Add, tree.Add, tree.Add, tree.Add, tree.Close, tree.Delete, tree.Rename, tree.Limit, tree.Expire}
	op := tree.Op{Kind: pick(r, kinds...), Path: anyPath(r)}
	switch op.Kind {
	case tree.Mkdir:
		op.Path = pick(r, "/a", "/b", "/a/b", "/a/b/f", op.Path)
	case tree.Create:
		op.Path = pick(r, "/f", "/g", "/a/f", "/b/f", op.Path)
	case tree.Rename:
		op.Path, op.To = pick(r, "/a", "/b", "/a/b", op.Path), anyPath(r)
	case tree.Limit:
		op.Quota = pick(r, 0, 0, 1, 2, 4, 9)
	}
	return op
}

// history is one in which all is right: the calls are done one after the other, and each is said to have lasted a while about its moment.
type history struct {
	r       *rand.Rand
	now     int
	world   world
	changes []audit.Change
	calls   []audit.Call
}

func anyHistory(r *rand.Rand, n int) *history {
	h := &history{r: r, world: behind(nil, 0)}
	for range n {
		h.now += r.Intn(3)
		if r.Intn(3) > 0 {
			h.write()
		} else {
			h.look()
		}
	}
	r.Shuffle(len(h.calls), func(i, j int) { h.calls[i], h.calls[j] = h.calls[j], h.calls[i] })
	return h
}

// call: one that is done now. Now and then it wasn't answered, or was given up.
func (h *history) call(c audit.Call) {
	c.Done, c.Start, c.End = true, h.now-h.r.Intn(4), h.now+h.r.Intn(4)
	if h.r.Intn(8) == 0 {
		c.Done, c.End = false, 0
	}
	h.calls = append(h.calls, c)
}

// aim: a path, or, mostly, where a file is wanted, that of one.
func (h *history) aim(path string, file bool) string {
	files := slices.Sorted(maps.Keys(h.world.bytes))
	if !file || len(files) == 0 || h.r.Intn(4) == 0 {
		return path
	}
	return pick(h.r, files...)
}

// ask: what is asked for next, and by whom; mostly such that it can be done.
func (h *history) ask() (tree.Op, int) {
	op := anyOp(h.r)
	op.Client, op.Piece.Size = 1+h.r.Intn(2), 1
	for range h.r.Intn(6) {
		if h.world.tree.Would(op) == api.OK {
			break
		}
		op = anyOp(h.r)
		op.Path = h.aim(op.Path, op.Kind == tree.Add || op.Kind == tree.Close)
		op.Client, op.Piece.Size = 1+h.r.Intn(2), 1
	}
	return op, op.Client
}

func (h *history) write() {
	op, client := h.ask()
	c := audit.Call{Kind: audit.Write, Client: client, Op: op, At: len(h.changes)}
	change := audit.Change{Step: h.now, Client: client, Op: op}
	if op.Kind == tree.Add {
		c.Data = pick(h.r, "a", "b", "ab", "ba", "abc")
		change.Data, change.Op.Piece = c.Data, pieceOf(c.Data)
		c.Op.Piece = pieceOf("other") // of its size nothing hangs but ErrArg
	}
	if h.r.Intn(12) == 0 { // it never came about
		c.Code = pick(h.r, api.ErrTimeout, api.ErrUnavailable, api.ErrFull)
		c.Done, c.Start, c.End = true, h.now, h.now
		h.calls = append(h.calls, c)
		return
	}
	if c.Code = h.world.make(change); c.Code == api.OK {
		h.changes = append(h.changes, change)
	}
	h.call(c)
	if last := &h.calls[len(h.calls)-1]; !last.Done && c.Code != api.OK {
		last.At = -1
	}
}

func (h *history) look() {
	c := audit.Call{Kind: audit.Read, Client: 3, Op: tree.Op{Path: h.aim(anyPath(h.r), true)}, At: len(h.changes)}
	c.Data, c.Code = h.world.told(c.Op.Path)
	if h.r.Intn(2) == 0 {
		c.Kind, c.Op.Path, c.Data = audit.List, pick(h.r, "/", "/a", "/b", anyPath(h.r)), ""
		c.Names, c.Code = h.world.tree.List(c.Op.Path)
	}
	h.call(c)
}

// P24.1: what went one after the other is right, whatever it was.
func TestRightHistories(t *testing.T) {
	for seed := range 300 {
		h := anyHistory(rand.New(rand.NewSource(int64(seed))), 60)
		wantRight(t, h.changes, h.calls...)
	}
}

// spoilChange changes something about a change.
func spoilChange(r *rand.Rand, c *audit.Change) {
	switch r.Intn(6) {
	case 0:
		c.Step += pick(r, -9, -1, 1, 9)
	case 1:
		c.Client++
	case 2:
		c.Op = anyOp(r)
	case 3:
		c.Data += "a"
	case 4:
		c.Op.Piece.Size++
	case 5:
		c.Op.Piece.Sum++
	}
}

// spoilCall changes something about a call.
func spoilCall(r *rand.Rand, c *audit.Call) {
	switch r.Intn(9) {
	case 0:
		c.Kind = r.Intn(5)
	case 1:
		c.Start, c.End = c.Start+r.Intn(7)-3, c.End+r.Intn(7)-3
	case 2:
		c.At += pick(r, -99, -1, -1, 1, 1, 99)
	case 3:
		c.Code = pick(r, api.OK, api.OK, api.ErrNoEnt, api.ErrIsDir, api.ErrTimeout)
	case 4:
		c.Done = !c.Done
	case 5, 6:
		c.Data = pick(r, "", "a", c.Data+"a", c.Data+c.Data)
		c.Names = pick(r, nil, []string{"a"}, []string{"a", "b"}, []string{"b"})
	case 7:
		c.Op = anyOp(r)
	case 8:
		c.Client++
	}
}

// P24.1: whatever is changed about a right history, the verdict is that of the words. (Each must have come about.)
func TestSpoiltHistories(t *testing.T) {
	met := map[string]int{}
	for seed := range 6000 {
		r := rand.New(rand.NewSource(int64(seed)))
		h := anyHistory(r, 40)
		for range 1 + r.Intn(3) {
			switch {
			case len(h.changes) > 0 && r.Intn(8) == 0:
				spoilChange(r, &h.changes[r.Intn(len(h.changes))])
			case len(h.calls) > 0 && r.Intn(8) == 0:
				h.calls = append(h.calls, pick(r, h.calls...))
			case len(h.calls) > 0:
				spoilCall(r, &h.calls[r.Intn(len(h.calls))])
			}
		}
		want := judged(h.changes, h.calls)
		wantVerdict(t, h.changes, h.calls, want.Number, want.Why)
		met[want.Why]++
	}
	for _, why := range []string{"", "order", "change", "kind", "span", "place", "other", "time", "twice", "code", "data", "names"} {
		if met[why] < 10 {
			t.Errorf("%q came about %d times", why, met[why])
		}
	}
}

// P24.2: whatever changes there are, also such as the tree refuses, the files are those of the words.
func TestFilesAgainstTheModel(t *testing.T) {
	for seed := range 600 {
		r := rand.New(rand.NewSource(int64(seed)))
		changes := slices.Concat(anyHistory(r, 40).changes, anyHistory(r, 10).changes, anyHistory(r, 20).changes)
		for range min(5, len(changes)) {
			spoilChange(r, &changes[r.Intn(len(changes))])
		}
		w := behind(changes, len(changes))
		var want []string
		for path := range w.bytes {
			want = append(want, path)
		}
		slices.SortFunc(want, paths.Compare)
		for i := len(want) - 1; i >= 0; i-- {
			want = slices.Insert(want, i+1, w.bytes[want[i]])
		}
		wantFiles(t, changes, want...)
	}
}
