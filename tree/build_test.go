package tree_test

import (
	"math"
	"slices"
	"strings"
	"testing"
	"unsafe"

	"mahout/api"
	"mahout/tree"
)

// rootWith is the root's entry and others behind it.
func rootWith(others ...tree.Entry) []tree.Entry {
	return append([]tree.Entry{{Path: "/", Dir: true}}, others...)
}

func dir(path string) tree.Entry { return tree.Entry{Path: path, Dir: true} }

// P7.6
func TestEntries(t *testing.T) {
	tr := made(t, mkdir("/b"), create("/a", 1), mkdir("/b/z"), mkdir("/b.c"), mkdir("/b!"), mkdir("/B"), mkdir("/b/y"), mkdir("/b/y/a"), create("/b/y.z", 2), mkdir("/b.c/a"), limit("/b/y", 7), limit("/", 30))
	wantEntries(t, tr, tree.Entry{Path: "/", Dir: true, Quota: 30},
		dir("/B"), tree.Entry{Path: "/a", Open: true, Holder: 1},
		dir("/b"), tree.Entry{Path: "/b/y", Dir: true, Quota: 7}, dir("/b/y/a"), tree.Entry{Path: "/b/y.z", Open: true, Holder: 2}, dir("/b/z"),
		dir("/b!"), dir("/b.c"), dir("/b.c/a"))
}

// P7.5: names rise byte by byte.
func TestList(t *testing.T) {
	tr := made(t, mkdir("/d"), mkdir("/d/x"), mkdir("/d/x/inner"))
	for _, name := range []string{"b", "a10", "a9", "B", "~", "!", "a", "a.", "a-", "..."} {
		takes(t, tr, create("/d/"+name, 1))
	}
	for range 3 {
		wantNames(t, tr, "/d", "!", "...", "B", "a", "a-", "a.", "a10", "a9", "b", "x", "~")
	}
	wantNames(t, tr, "/", "d")
	wantNames(t, tr, "/d/x", "inner")
	wantNames(t, tr, "/d/x/inner")
	for path, errno := range map[string]api.Errno{"/d/a": api.ErrNotDir, "/d/a/x": api.ErrNotDir, "/y": api.ErrNoEnt, "/d/": api.ErrPath} {
		if got, e := tr.List(path); len(got) != 0 || e != errno {
			t.Errorf("List(%q): %q, %d, not %d", path, got, e, errno)
		}
	}
}

// P7.5: beside an error there is no Info.
func TestStatOfNothing(t *testing.T) {
	tr := made(t, mkdir("/d"), limit("/d", 1), create("/f", 3), add("/f", 3, 1))
	for path, errno := range map[string]api.Errno{"/f/x": api.ErrNotDir, "/d/x": api.ErrNoEnt, "d": api.ErrPath} {
		if got, e := tr.Stat(path); e != errno || got.Pieces != nil || !sameInfo(got, tree.Info{}) {
			t.Errorf("Stat(%q): %v, %d, not %d", path, got, e, errno)
		}
	}
}

// P7.6: what was built has just these entries, and is a tree of its own.
func TestBuild(t *testing.T) {
	full := tree.Entry{Path: "/d/full", Open: true, Holder: -1, Pieces: slices.Repeat([]api.Piece{piece(api.MaxBlock)}, api.MaxBlocks)}
	for _, list := range [][]tree.Entry{
		rootWith(),
		{{Path: "/", Dir: true, Quota: math.MaxInt}},
		{{Path: "/", Dir: true, Quota: 1}, dir("/a"), {Path: "/a/b", Dir: true, Quota: 1}, dir("/a/b/c"), dir("/a/b/d")}, // quotas aren't asked
		rootWith(tree.Entry{Path: "/f"}),
		rootWith(tree.Entry{Path: "/f", Open: true}), // held by 0
		rootWith(tree.Entry{Path: "/f", Open: true, Holder: 3, Pieces: []api.Piece{piece(1), {Size: 1}, piece(1)}}, tree.Entry{Path: "/g", Pieces: []api.Piece{piece(9)}}),
		rootWith(dir("/d"), full, dir("/e")),
		rootWith(dir("/a"), dir("/a/b"), dir("/a/b.c"), dir("/a.b"), dir("/a.b/c"), dir("/ab")),
	} {
		tr, e := tree.Build(list)
		if tr == nil || e != api.OK {
			t.Fatalf("Build(%.200v): %v, %d", list, tr, e)
		}
		wantEntries(t, tr, list...)
		wantInfo(t, tr, "/", tree.Info{Dir: true, Quota: list[0].Quota, Count: len(list) - 1})
		again, e := tree.Build(tr.Entries())
		want(t, "Build of the entries", e, api.OK)
		wantEntries(t, again, list...)
		takes(t, tr, limit("/", 0))
		takes(t, tr, mkdir("/new"))
		wantEntries(t, again, list...)
	}
}

// P7.6: what was built is a tree like any other.
func TestBuildAndGoOn(t *testing.T) {
	tr, _ := tree.Build([]tree.Entry{{Path: "/", Dir: true, Quota: 4}, dir("/a"), {Path: "/a/f", Open: true, Holder: 3, Pieces: []api.Piece{piece(5)}}, {Path: "/g"}})
	wantInfo(t, tr, "/a", tree.Info{Dir: true, Count: 1})
	wantInfo(t, tr, "/a/f", tree.Info{Open: true, Holder: 3, Size: 5, Pieces: []api.Piece{piece(5)}})
	takes(t, tr, add("/a/f", 3, 2))
	refuses(t, tr, add("/g", 0, 2), api.ErrLease)
	refuses(t, tr, rename("/a", "/b"), api.ErrOpen)
	takes(t, tr, mkdir("/a/c"))
	refuses(t, tr, mkdir("/a/d"), api.ErrQuota)
	takes(t, tr, remove("/a"))
	wantInfo(t, tr, "/", tree.Info{Dir: true, Quota: 4, Count: 1})
}

// fails: Build answers the error and no tree.
func fails(t *testing.T, errno api.Errno, list ...tree.Entry) {
	t.Helper()
	if tr, e := tree.Build(list); tr != nil || e != errno {
		t.Errorf("Build(%.300v): %v, %d, not %d", list, tr, e, errno)
	}
}

// P7.6: the first one.
func TestBuildWithoutARoot(t *testing.T) {
	fails(t, api.ErrForm)
	for _, path := range append(noPaths(), "/a", "/a/b") {
		fails(t, api.ErrForm, dir(path))
		fails(t, api.ErrForm, dir(path), dir("/"))
		fails(t, api.ErrForm, dir(path), dir("/b"))
	}
	fails(t, api.ErrForm, tree.Entry{Path: "/"})
	fails(t, api.ErrForm, tree.Entry{Path: "/"}, dir("/a"))
	fails(t, api.ErrForm, tree.Entry{Path: "/", Open: true, Holder: 1})
	for _, e := range notSound("/") {
		if e.Dir {
			fails(t, api.ErrForm, e)
			fails(t, api.ErrForm, e, dir("a"))
		}
	}
}

// notSound are entries with fields that no entry has.
func notSound(path string) []tree.Entry {
	return []tree.Entry{
		{Path: path, Dir: true, Quota: -1},
		{Path: path, Dir: true, Quota: math.MinInt},
		{Path: path, Dir: true, Open: true},
		{Path: path, Dir: true, Holder: 1},
		{Path: path, Dir: true, Holder: -1},
		{Path: path, Dir: true, Pieces: []api.Piece{piece(1)}},
		{Path: path, Dir: true, Pieces: []api.Piece{{}}},
		{Path: path, Quota: 1},
		{Path: path, Quota: -1},
		{Path: path, Open: true, Holder: 1, Quota: 1},
		{Path: path, Holder: 1},
		{Path: path, Holder: -1},
		{Path: path, Pieces: []api.Piece{piece(0)}},
		{Path: path, Pieces: []api.Piece{piece(1), piece(-1)}},
		{Path: path, Open: true, Pieces: []api.Piece{piece(1), piece(api.MaxBlock + 1), piece(1)}},
		{Path: path, Pieces: []api.Piece{{Size: math.MaxInt}}},
		{Path: path, Pieces: slices.Repeat([]api.Piece{piece(1)}, api.MaxBlocks+1)},
	}
}

// P7.6
func TestBuildOfWhatIsNotSound(t *testing.T) {
	for _, e := range notSound("/b") {
		fails(t, api.ErrForm, rootWith(e)...)
		fails(t, api.ErrForm, rootWith(dir("/a"), e, dir("/c"))...)
		fails(t, api.ErrForm, rootWith(dir("/a"), e, dir("no path"))...)
	}
	for _, e := range notSound("/x/y") { // a place for it comes first
		fails(t, api.ErrNoEnt, rootWith(dir("/a"), e)...)
	}
	for _, e := range notSound("no path") {
		fails(t, api.ErrPath, rootWith(dir("/a"), e)...)
	}
}

// P7.6: the order, ahead of the place.
func TestBuildOutOfOrder(t *testing.T) {
	for _, paths := range [][]string{{"/"}, {"/a", "/a"}, {"/b", "/a"}, {"/a", "/"}, {"/a", "/a/b", "/a"}, {"/a", "/a.b", "/a/b"}, {"/b", "/a/x"}, {"/a", "/a/b", "/a/b/c", "/a/b"}, {"/c", "/a/b/c/d"}} {
		var list []tree.Entry
		for _, path := range paths {
			list = append(list, dir(path))
		}
		fails(t, api.ErrForm, rootWith(list...)...)
	}
	fails(t, api.ErrForm, rootWith(tree.Entry{Path: "/f"}, dir("/f"))...)
	fails(t, api.ErrForm, rootWith(tree.Entry{Path: "/f"}, dir("/e/x"))...)
}

// P7.6: no place.
func TestBuildWithoutAPlace(t *testing.T) {
	for _, path := range noPaths() {
		fails(t, api.ErrPath, rootWith(dir(path))...)
		fails(t, api.ErrPath, rootWith(dir("/z"), tree.Entry{Path: path}, dir("/a"))...)
	}
	fails(t, api.ErrNoEnt, rootWith(dir("/a/b"))...)
	fails(t, api.ErrNoEnt, rootWith(dir("/a"), dir("/b/c"))...)
	fails(t, api.ErrNoEnt, rootWith(dir("/a"), dir("/a/b/c"), dir("/a/b"))...)
	fails(t, api.ErrNotDir, rootWith(tree.Entry{Path: "/a"}, dir("/a/b"))...)
	fails(t, api.ErrNotDir, rootWith(tree.Entry{Path: "/a"}, dir("/a/b/c"))...)
	fails(t, api.ErrNotDir, rootWith(tree.Entry{Path: "/a"}, dir("/a/b"), dir("no path"))...)
}

// P7.7
func TestNil(t *testing.T) {
	var tr *tree.Tree
	for _, op := range []tree.Op{{}, mkdir("/a"), create("/a", 1), add("/a", 1, 1), shut("/a", 1), remove("/"), rename("a", "b"), limit("/", 1), expire("/")} {
		want(t, "Apply", tr.Apply(op), api.ErrArg)
		want(t, "Would", tr.Would(op), api.ErrArg)
	}
	for _, path := range []string{"/", "/a", "a"} {
		if got, e := tr.Stat(path); !sameInfo(got, tree.Info{}) || e != api.ErrArg {
			t.Errorf("Stat(%q): %v, %d", path, got, e)
		}
		if got, e := tr.List(path); len(got) != 0 || e != api.ErrArg {
			t.Errorf("List(%q): %q, %d", path, got, e)
		}
	}
	if got := tr.Entries(); len(got) != 0 {
		t.Errorf("Entries: %v", got)
	}
}

// What is handed in isn't changed or kept, and an answer is new memory.
func TestMemory(t *testing.T) {
	pieces := []api.Piece{piece(1), piece(2), piece(3)}
	list := rootWith(dir("/d"), tree.Entry{Path: "/d/f", Open: true, Holder: 1, Pieces: pieces[:2]})
	tr, _ := tree.Build(list)
	whole := []api.Piece{piece(1), piece(2)}
	wantAll := func() {
		t.Helper()
		wantEntries(t, tr, rootWith(dir("/d"), tree.Entry{Path: "/d/f", Open: true, Holder: 1, Pieces: whole})...)
	}
	takes(t, tr, add("/d/f", 1, 9))
	if pieces[2] != piece(3) {
		t.Error("Add has changed what Build was given")
	}
	whole = append(whole, piece(9))
	pieces[0], list[1] = api.Piece{}, dir("/x")
	wantAll()
	info, _ := tr.Stat("/d/f")
	entries := tr.Entries()
	again := tr.Entries()
	names, _ := tr.List("/d")
	for i := range info.Pieces {
		info.Pieces[i], entries[2].Pieces[i] = api.Piece{}, api.Piece{}
	}
	if again[2].Pieces[0] != piece(1) {
		t.Error("two answers share their pieces")
	}
	_ = append(info.Pieces[:1], api.Piece{})
	entries[1], names[0] = tree.Entry{}, "x"
	wantAll()
	wantNames(t, tr, "/d", "f")
}

// An answer is new memory: its texts too.
func TestTextsAreNewMemory(t *testing.T) {
	path := strings.Repeat("/ab", 3)
	tr := made(t, mkdir("/ab"), mkdir("/ab/ab"), mkdir(path))
	texts := []string{path}
	for range 2 {
		names, _ := tr.List("/ab/ab")
		texts = append(texts, names...)
		for _, e := range tr.Entries()[1:] {
			texts = append(texts, e.Path)
		}
	}
	lie := map[*byte]string{}
	for _, text := range texts {
		if other, there := lie[unsafe.StringData(text)]; there {
			t.Errorf("%q and %q share memory", text, other)
		}
		lie[unsafe.StringData(text)] = text
	}
}

// P1: nothing that can be handed in makes it panic.
func TestAnyTexts(t *testing.T) {
	tr := made(t, mkdir("/a"), create("/a/f", 1))
	texts := append(noPaths(), "/", "/a", "/a/f", "/a/x", strings.Repeat("/", 1<<20), strings.Repeat("n", 1<<20), "\xff", "/\xff")
	for kind := -1; kind < 11; kind++ {
		for _, path := range texts {
			for _, to := range texts {
				op := tree.Op{Kind: kind, Path: path, To: to, Client: math.MinInt, Quota: math.MaxInt, Piece: piece(math.MaxInt)}
				if would, does := tr.Would(op), tr.Apply(op); would != does {
					t.Errorf("%.200v: Would %d, Apply %d", op, would, does)
				}
			}
		}
	}
}
