package tree_test

import (
	"math"
	"slices"
	"strings"
	"testing"

	"mahout/api"
	"mahout/tree"
)

func want(t *testing.T, what string, got, errno api.Errno) {
	t.Helper()
	if got != errno {
		t.Errorf("%s: %d, not %d", what, got, errno)
	}
}

func mkdir(path string) tree.Op  { return tree.Op{Kind: tree.Mkdir, Path: path} }
func remove(path string) tree.Op { return tree.Op{Kind: tree.Delete, Path: path} }
func expire(path string) tree.Op { return tree.Op{Kind: tree.Expire, Path: path} }

func create(path string, client int) tree.Op {
	return tree.Op{Kind: tree.Create, Path: path, Client: client}
}

func add(path string, client, size int) tree.Op {
	return tree.Op{Kind: tree.Add, Path: path, Client: client, Piece: piece(size)}
}

func shut(path string, client int) tree.Op {
	return tree.Op{Kind: tree.Close, Path: path, Client: client}
}

func rename(path, to string) tree.Op {
	return tree.Op{Kind: tree.Rename, Path: path, To: to}
}

func limit(path string, quota int) tree.Op {
	return tree.Op{Kind: tree.Limit, Path: path, Quota: quota}
}

// piece is one of so many bytes.
func piece(size int) api.Piece {
	return api.Piece{Block: api.Block{Client: 1, Call: size, Try: 3}, Size: size, Sum: math.MaxUint32}
}

// made is a tree in which these changes were made.
func made(t *testing.T, ops ...tree.Op) *tree.Tree {
	t.Helper()
	tr := tree.New()
	for _, op := range ops {
		if e := tr.Apply(op); e != api.OK {
			t.Fatalf("Apply(%v): %d", op, e)
		}
	}
	return tr
}

// closed is what makes a closed file.
func closed(path string) []tree.Op {
	return []tree.Op{create(path, 1), shut(path, 1)}
}

func sameEntry(a, b tree.Entry) bool {
	if !slices.Equal(a.Pieces, b.Pieces) {
		return false
	}
	return a.Path == b.Path && a.Dir == b.Dir && a.Open == b.Open && a.Holder == b.Holder && a.Quota == b.Quota
}

func wantEntries(t *testing.T, tr *tree.Tree, list ...tree.Entry) {
	t.Helper()
	if got := tr.Entries(); !slices.EqualFunc(got, list, sameEntry) {
		t.Errorf("Entries: %v, not %v", got, list)
	}
}

func wantInfo(t *testing.T, tr *tree.Tree, path string, want tree.Info) {
	t.Helper()
	got, e := tr.Stat(path)
	if e != api.OK || !sameInfo(got, want) {
		t.Errorf("Stat(%q): %v, %d, not %v", path, got, e, want)
	}
}

func sameInfo(a, b tree.Info) bool {
	if !slices.Equal(a.Pieces, b.Pieces) {
		return false
	}
	return a.Dir == b.Dir && a.Open == b.Open && a.Holder == b.Holder && a.Quota == b.Quota && a.Count == b.Count && a.Size == b.Size
}

// wantNames: does the directory hold just these, in this order?
func wantNames(t *testing.T, tr *tree.Tree, path string, names ...string) {
	t.Helper()
	if got, e := tr.List(path); e != api.OK || !slices.Equal(got, names) {
		t.Errorf("List(%q): %q, %d, not %q", path, got, e, names)
	}
}

// refuses: Would and Apply answer the error, and nothing changes.
func refuses(t *testing.T, tr *tree.Tree, op tree.Op, errno api.Errno) {
	t.Helper()
	before := tr.Entries()
	if e := tr.Would(op); e != errno {
		t.Errorf("Would(%.200v): %d, not %d", op, e, errno)
	}
	if e := tr.Apply(op); e != errno {
		t.Errorf("Apply(%.200v): %d, not %d", op, e, errno)
	}
	wantEntries(t, tr, before...)
}

// takes: Would answers OK and changes nothing; Apply makes the change.
func takes(t *testing.T, tr *tree.Tree, op tree.Op) {
	t.Helper()
	before := tr.Entries()
	want(t, "Would", tr.Would(op), api.OK)
	wantEntries(t, tr, before...)
	if e := tr.Apply(op); e != api.OK {
		t.Errorf("Apply(%v): %d", op, e)
	}
}

// noPaths are some texts that aren't paths.
func noPaths() []string {
	return []string{"", "a", "//", "/a/", "/a//b", "/.", "/..", "/a/..", "/a b", "/\x00", "/" + strings.Repeat("n", api.MaxName+1), strings.Repeat("/a", api.MaxDepth+1), strings.Repeat("/aaaaaaaaaaaaaaaa", 16)}
}

// P7.4: the kinds' numbers.
func TestKinds(t *testing.T) {
	kinds := []int{tree.Mkdir, tree.Create, tree.Add, tree.Close, tree.Delete, tree.Rename, tree.Limit, tree.Expire}
	if !slices.Equal(kinds, []int{1, 2, 3, 4, 5, 6, 7, 8}) {
		t.Errorf("kinds: %v", kinds)
	}
}

// P7.1
func TestNew(t *testing.T) {
	one, two := tree.New(), tree.New()
	if one == nil {
		t.Fatal("New: nil")
	}
	wantEntries(t, one, tree.Entry{Path: "/", Dir: true})
	wantInfo(t, one, "/", tree.Info{Dir: true})
	wantNames(t, one, "/")
	takes(t, one, mkdir("/a"))
	takes(t, one, limit("/", 1))
	wantEntries(t, two, tree.Entry{Path: "/", Dir: true})
	takes(t, two, create("/b", 1))
	wantEntries(t, one, tree.Entry{Path: "/", Dir: true, Quota: 1}, tree.Entry{Path: "/a", Dir: true})
	wantEntries(t, two, tree.Entry{Path: "/", Dir: true}, tree.Entry{Path: "/b", Open: true, Holder: 1})
}

// The chapter's examples.
func TestExamples(t *testing.T) {
	tr := made(t, mkdir("/a"), create("/a/f", 3), add("/a/f", 3, 5))
	wantInfo(t, tr, "/a/f", tree.Info{Open: true, Holder: 3, Size: 5, Pieces: []api.Piece{piece(5)}})
	wantInfo(t, tr, "/", tree.Info{Dir: true, Count: 2})
	refuses(t, tr, rename("/a", "/b"), api.ErrOpen)
	takes(t, tr, shut("/a/f", 3))
	takes(t, tr, rename("/a", "/b"))
	takes(t, tr, rename("/b", "/a"))
	refuses(t, tr, rename("/a", "/a/c"), api.ErrInside)
	takes(t, tr, limit("/", 2))
	refuses(t, tr, mkdir("/c"), api.ErrQuota)
	if _, e := tr.Stat("/a/f/x"); e != api.ErrNotDir {
		t.Errorf("Stat(/a/f/x): %d", e)
	}
}

// askers are all that begins with finding a path.
func askers(tr *tree.Tree) map[string]func(path string) api.Errno {
	would := func(op tree.Op) func(string) api.Errno {
		return func(path string) api.Errno {
			op.Path = path
			return tr.Would(op)
		}
	}
	return map[string]func(string) api.Errno{
		"Stat":   func(path string) api.Errno { _, e := tr.Stat(path); return e },
		"List":   func(path string) api.Errno { _, e := tr.List(path); return e },
		"Add":    would(add("", 1, 1)),
		"Close":  would(shut("", 1)),
		"Delete": would(remove("")),
		"Rename": would(rename("", "/elsewhere")),
		"Limit":  would(limit("", 1)),
		"Expire": would(expire("")),
	}
}

// P7.2: finding a path.
func TestFind(t *testing.T) {
	tr := made(t, mkdir("/a"), mkdir("/a/b"), create("/a/f", 1), create("/f", 1))
	for path, errno := range map[string]api.Errno{
		"/x": api.ErrNoEnt, "/a/x": api.ErrNoEnt, "/x/y": api.ErrNoEnt, "/a/b/x": api.ErrNoEnt, "/a/x/y/z": api.ErrNoEnt, "/A": api.ErrNoEnt, "/a/b/f": api.ErrNoEnt,
		"/f/x": api.ErrNotDir, "/f/x/y": api.ErrNotDir, "/a/f/x": api.ErrNotDir, "/a/f/f": api.ErrNotDir, "/a/f/x/y/z": api.ErrNotDir,
	} {
		for name, ask := range askers(tr) {
			if e := ask(path); e != errno {
				t.Errorf("%s of %q: %d, not %d", name, path, e, errno)
			}
		}
	}
	for _, path := range noPaths() {
		for name, ask := range askers(tr) {
			if e := ask(path); e != api.ErrPath {
				t.Errorf("%s of %q: %d", name, path, e)
			}
		}
	}
	for path, dir := range map[string]bool{"/": true, "/a": true, "/a/b": true, "/a/f": false, "/f": false} {
		if got, e := tr.Stat(path); got.Dir != dir || e != api.OK {
			t.Errorf("Stat(%q): %v, %d", path, got, e)
		}
	}
}

// P7.2: a place for a path.
func TestPlace(t *testing.T) {
	tr := made(t, mkdir("/a"), mkdir("/a/b"), create("/a/f", 1), create("/f", 1), mkdir("/moving"))
	refusesAll := func(path string, errno api.Errno) {
		t.Helper()
		refuses(t, tr, mkdir(path), errno)
		refuses(t, tr, create(path, 1), errno)
		refuses(t, tr, rename("/moving", path), errno)
	}
	for _, path := range append(noPaths(), "/") {
		refusesAll(path, api.ErrPath)
	}
	for _, path := range []string{"/x/y", "/a/x/y", "/x/y/z", "/a/b/x/y"} {
		refusesAll(path, api.ErrNoEnt)
	}
	for _, path := range []string{"/f/x", "/f/x/y", "/a/f/x", "/a/f/x/y/z"} {
		refusesAll(path, api.ErrNotDir)
	}
	for _, path := range []string{"/a", "/a/b", "/a/f", "/f"} {
		refusesAll(path, api.ErrExists)
	}
	for _, path := range []string{"/x", "/a/x", "/a/b/x", "/A", "/ab", "/a.b", "/~"} {
		for _, op := range []tree.Op{mkdir(path), create(path, 1), rename("/moving", path)} {
			want(t, path, tr.Would(op), api.OK)
		}
	}
}

// P7.4
func TestNoKind(t *testing.T) {
	tr := made(t, mkdir("/a"))
	for _, kind := range []int{0, -1, 9, 10, 256 + tree.Mkdir, math.MinInt, math.MaxInt} {
		refuses(t, tr, tree.Op{Kind: kind, Path: "/b"}, api.ErrArg)
		refuses(t, tr, tree.Op{Kind: kind, Path: "b"}, api.ErrArg)
		refuses(t, tr, tree.Op{Kind: kind, Path: "/a", To: "/b"}, api.ErrArg)
	}
}

// P7.4: what an op has beside what its row names is of no matter.
func TestOtherFields(t *testing.T) {
	full := func(kind int) tree.Op {
		return tree.Op{Kind: kind, Path: "/f", To: "no path", Client: 7, Piece: piece(-1), Quota: -5}
	}
	tr := made(t)
	for _, kind := range []int{tree.Mkdir, tree.Delete, tree.Create, tree.Close} {
		takes(t, tr, full(kind))
	}
	wantEntries(t, tr, tree.Entry{Path: "/", Dir: true}, tree.Entry{Path: "/f"})
	takes(t, tr, full(tree.Delete))
	takes(t, tr, full(tree.Create))
	wantEntries(t, tr, tree.Entry{Path: "/", Dir: true}, tree.Entry{Path: "/f", Open: true, Holder: 7})
	takes(t, tr, full(tree.Expire))
	wantEntries(t, tr, tree.Entry{Path: "/", Dir: true}, tree.Entry{Path: "/f"})
}

// P7.4: Mkdir.
func TestMkdir(t *testing.T) {
	tr := made(t)
	takes(t, tr, mkdir("/b"))
	takes(t, tr, mkdir("/a"))
	takes(t, tr, mkdir("/a/b"))
	wantEntries(t, tr, tree.Entry{Path: "/", Dir: true}, tree.Entry{Path: "/a", Dir: true}, tree.Entry{Path: "/a/b", Dir: true}, tree.Entry{Path: "/b", Dir: true})
	wantInfo(t, tr, "/a/b", tree.Info{Dir: true})
	wantNames(t, tr, "/a/b")
	deep := ""
	for range api.MaxDepth {
		deep += "/d"
		takes(t, tr, mkdir(deep))
	}
	refuses(t, tr, mkdir(deep+"/d"), api.ErrPath)
	wantInfo(t, tr, "/", tree.Info{Dir: true, Count: 3 + api.MaxDepth})
}

// P7.4: Create.
func TestCreate(t *testing.T) {
	for _, client := range []int{1, 0, -1, math.MinInt, math.MaxInt} {
		tr := made(t, mkdir("/a"))
		takes(t, tr, create("/a/f", client))
		wantInfo(t, tr, "/a/f", tree.Info{Open: true, Holder: client})
		wantEntries(t, tr, tree.Entry{Path: "/", Dir: true}, tree.Entry{Path: "/a", Dir: true}, tree.Entry{Path: "/a/f", Open: true, Holder: client})
		refuses(t, tr, create("/a/f", client), api.ErrExists)
		takes(t, tr, shut("/a/f", client))
		wantInfo(t, tr, "/a/f", tree.Info{})
	}
}

// P7.4: Add.
func TestAdd(t *testing.T) {
	tr := made(t, create("/f", 3), mkdir("/d"))
	takes(t, tr, add("/f", 3, 1))
	takes(t, tr, add("/f", 3, api.MaxBlock))
	odd := api.Piece{Block: api.Block{Client: math.MinInt, Call: -1, Try: math.MaxInt}, Size: 2}
	takes(t, tr, tree.Op{Kind: tree.Add, Path: "/f", Client: 3, Piece: odd})
	takes(t, tr, add("/f", 3, 1)) // the same piece once more
	all := []api.Piece{piece(1), piece(api.MaxBlock), odd, piece(1)}
	wantInfo(t, tr, "/f", tree.Info{Open: true, Holder: 3, Size: api.MaxBlock + 4, Pieces: all})
	wantEntries(t, tr, tree.Entry{Path: "/", Dir: true}, tree.Entry{Path: "/d", Dir: true}, tree.Entry{Path: "/f", Open: true, Holder: 3, Pieces: all})
	wantInfo(t, tr, "/", tree.Info{Dir: true, Count: 2})
}

// P7.4: the errors of Add, in their order.
func TestAddErrors(t *testing.T) {
	tr := made(t, append(closed("/shut"), create("/f", 3), mkdir("/d"))...)
	for _, size := range []int{0, -1, api.MaxBlock + 1, math.MinInt, math.MaxInt, 1} {
		refuses(t, tr, add("/d", 3, size), api.ErrIsDir)
		refuses(t, tr, add("/", 3, size), api.ErrIsDir)
		refuses(t, tr, add("/f/x", 3, size), api.ErrNotDir)
		refuses(t, tr, add("/x", 3, size), api.ErrNoEnt)
		refuses(t, tr, add("x", 3, size), api.ErrPath)
		for _, client := range []int{2, 0, -3, 4} {
			refuses(t, tr, add("/f", client, size), api.ErrLease)
		}
		for _, client := range []int{0, 1, 3} { // of a closed file: whoever asks
			refuses(t, tr, add("/shut", client, size), api.ErrLease)
		}
		if size != 1 {
			refuses(t, tr, add("/f", 3, size), api.ErrArg)
		}
	}
	for range api.MaxBlocks {
		want(t, "Add", tr.Apply(add("/f", 3, 2)), api.OK)
	}
	refuses(t, tr, add("/f", 3, 2), api.ErrLong)
	refuses(t, tr, add("/f", 3, 0), api.ErrArg)
	refuses(t, tr, add("/f", 2, 2), api.ErrLease)
	if got, e := tr.Stat("/f"); len(got.Pieces) != api.MaxBlocks || got.Size != 2*api.MaxBlocks || e != api.OK {
		t.Errorf("Stat of a full file: %d pieces, %d", len(got.Pieces), e)
	}
}

// P7.4: Close and Expire.
func TestCloseAndExpire(t *testing.T) {
	tr := made(t, mkdir("/d"), create("/d/f", 3), add("/d/f", 3, 5), create("/d/g", 4), create("/none", 0))
	for _, path := range []string{"/d", "/"} {
		refuses(t, tr, shut(path, 3), api.ErrIsDir)
		refuses(t, tr, expire(path), api.ErrIsDir)
	}
	for _, client := range []int{0, 4, -3} {
		refuses(t, tr, shut("/d/f", client), api.ErrLease)
	}
	refuses(t, tr, shut("/none", 1), api.ErrLease)
	takes(t, tr, shut("/d/f", 3))
	takes(t, tr, expire("/d/g"))
	takes(t, tr, shut("/none", 0))
	wantEntries(t, tr, tree.Entry{Path: "/", Dir: true}, tree.Entry{Path: "/d", Dir: true},
		tree.Entry{Path: "/d/f", Pieces: []api.Piece{piece(5)}}, tree.Entry{Path: "/d/g"}, tree.Entry{Path: "/none"})
	wantInfo(t, tr, "/d/f", tree.Info{Size: 5, Pieces: []api.Piece{piece(5)}})
	for _, path := range []string{"/d/f", "/d/g", "/none"} {
		refuses(t, tr, expire(path), api.ErrLease)
		for _, client := range []int{0, 3, 4} {
			refuses(t, tr, shut(path, client), api.ErrLease)
			refuses(t, tr, add(path, client, 1), api.ErrLease)
		}
	}
}

// P7.4: Delete.
func TestDelete(t *testing.T) {
	tr := made(t, mkdir("/a"), mkdir("/a/b"), create("/a/b/f", 3), create("/a/g", 3), create("/h", 3), mkdir("/c"))
	refuses(t, tr, remove("/"), api.ErrPath)
	refuses(t, tr, remove("/a/x"), api.ErrNoEnt)
	takes(t, tr, remove("/a/g"))
	wantInfo(t, tr, "/a", tree.Info{Dir: true, Count: 2})
	wantInfo(t, tr, "/", tree.Info{Dir: true, Count: 5})
	takes(t, tr, remove("/a")) // with an open file below it
	wantEntries(t, tr, tree.Entry{Path: "/", Dir: true}, tree.Entry{Path: "/c", Dir: true}, tree.Entry{Path: "/h", Open: true, Holder: 3})
	wantInfo(t, tr, "/", tree.Info{Dir: true, Count: 2})
	refuses(t, tr, remove("/a"), api.ErrNoEnt)
	refuses(t, tr, remove("/a/b"), api.ErrNoEnt)
	takes(t, tr, mkdir("/a"))
	wantNames(t, tr, "/a")
	wantInfo(t, tr, "/a", tree.Info{Dir: true})
	takes(t, tr, remove("/h"))
	takes(t, tr, create("/h", 4))
	wantInfo(t, tr, "/h", tree.Info{Open: true, Holder: 4})
}

// P7.4: Limit.
func TestLimit(t *testing.T) {
	tr := made(t, mkdir("/a"), mkdir("/a/b"), create("/a/f", 3))
	refuses(t, tr, limit("/a/f", 1), api.ErrNotDir)
	refuses(t, tr, limit("/a/f", -1), api.ErrNotDir)
	refuses(t, tr, limit("/x", -1), api.ErrNoEnt)
	refuses(t, tr, limit("x", -1), api.ErrPath)
	for _, quota := range []int{-1, math.MinInt} {
		refuses(t, tr, limit("/a", quota), api.ErrArg)
		refuses(t, tr, limit("/", quota), api.ErrArg)
	}
	takes(t, tr, limit("/a", 1)) // what is there already stays
	wantEntries(t, tr, tree.Entry{Path: "/", Dir: true}, tree.Entry{Path: "/a", Dir: true, Quota: 1}, tree.Entry{Path: "/a/b", Dir: true}, tree.Entry{Path: "/a/f", Open: true, Holder: 3})
	wantInfo(t, tr, "/a", tree.Info{Dir: true, Quota: 1, Count: 2})
	refuses(t, tr, mkdir("/a/c"), api.ErrQuota)
	takes(t, tr, add("/a/f", 3, 1)) // pieces aren't counted
	takes(t, tr, limit("/a", math.MaxInt))
	takes(t, tr, mkdir("/a/c"))
	takes(t, tr, limit("/a", 0))
	takes(t, tr, mkdir("/a/d"))
	wantInfo(t, tr, "/a", tree.Info{Dir: true, Count: 4})
}
