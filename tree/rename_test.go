package tree_test

import (
	"strings"
	"testing"

	"mahout/api"
	"mahout/tree"
)

// P7.3: every ancestor's quota is asked, and everything below it counts.
func TestRoom(t *testing.T) {
	for _, quotas := range []map[string]int{{"/": 5}, {"/a": 4}, {"/a/b": 2}, {"/": 5, "/a": 4, "/a/b": 2}, {"/": 9, "/a": 4}} {
		tr := made(t, mkdir("/a"), mkdir("/a/b"), mkdir("/a/b/c"), create("/a/f", 1))
		for path, quota := range quotas {
			takes(t, tr, limit(path, quota))
		}
		takes(t, tr, create("/a/b/g", 1)) // now all are full
		for _, op := range []tree.Op{mkdir("/a/b/x"), create("/a/b/x", 1), mkdir("/a/b/c/x")} {
			refuses(t, tr, op, api.ErrQuota)
		}
		takes(t, tr, remove("/a/b/c"))
		takes(t, tr, mkdir("/a/b/x"))
		refuses(t, tr, mkdir("/a/b/y"), api.ErrQuota)
	}
}

// P7.3: the quota of the place itself isn't asked, nor that of what stands beside it.
func TestRoomOfOthers(t *testing.T) {
	tr := made(t, mkdir("/a"), mkdir("/a/b"), mkdir("/c"), limit("/a", 1))
	takes(t, tr, mkdir("/c/d"))
	takes(t, tr, mkdir("/x"))
	refuses(t, tr, mkdir("/a/x"), api.ErrQuota)
	refuses(t, tr, mkdir("/a/b/x"), api.ErrQuota)
	refuses(t, tr, mkdir("/a/b"), api.ErrExists)
	refuses(t, tr, mkdir("/a/x/y"), api.ErrNoEnt)
}

// P7.4: what is renamed stands there, with all below it, and the counts follow.
func TestRename(t *testing.T) {
	tr := made(t, mkdir("/a"), mkdir("/a/b"), mkdir("/c"))
	for _, path := range []string{"/a/b/f", "/a/g"} {
		takes(t, tr, create(path, 1))
		takes(t, tr, add(path, 1, 7))
		takes(t, tr, shut(path, 1))
	}
	takes(t, tr, limit("/a/b", 5))
	takes(t, tr, rename("/a/b", "/c/d"))
	wantEntries(t, tr, tree.Entry{Path: "/", Dir: true},
		tree.Entry{Path: "/a", Dir: true}, tree.Entry{Path: "/a/g", Pieces: []api.Piece{piece(7)}},
		tree.Entry{Path: "/c", Dir: true}, tree.Entry{Path: "/c/d", Dir: true, Quota: 5}, tree.Entry{Path: "/c/d/f", Pieces: []api.Piece{piece(7)}})
	wantInfo(t, tr, "/", tree.Info{Dir: true, Count: 5})
	wantInfo(t, tr, "/a", tree.Info{Dir: true, Count: 1})
	wantInfo(t, tr, "/c", tree.Info{Dir: true, Count: 2})
	wantInfo(t, tr, "/c/d", tree.Info{Dir: true, Count: 1, Quota: 5})
	if _, e := tr.Stat("/a/b"); e != api.ErrNoEnt {
		t.Errorf("Stat of the old path: %d", e)
	}
	takes(t, tr, rename("/a/g", "/g")) // a file, upwards
	takes(t, tr, rename("/c/d", "/c/e"))
	takes(t, tr, rename("/g", "/c/e/g"))
	wantNames(t, tr, "/", "a", "c")
	wantNames(t, tr, "/c/e", "f", "g")
	wantInfo(t, tr, "/a", tree.Info{Dir: true})
	wantInfo(t, tr, "/c", tree.Info{Dir: true, Count: 3})
	takes(t, tr, mkdir("/a/b")) // the old path is free
}

// P7.4: no path, or the root's, stands ahead of all else.
func TestRenameOfNoPath(t *testing.T) {
	tr := made(t, mkdir("/a"), create("/f", 1))
	for _, none := range append(noPaths(), "/") {
		for _, path := range []string{"/a", "/f", "/x", "/f/x", "/", "no path"} {
			refuses(t, tr, rename(none, path), api.ErrPath)
			refuses(t, tr, rename(path, none), api.ErrPath)
		}
	}
}

// P7.4: Path isn't there, before To is looked at.
func TestRenameOfNothing(t *testing.T) {
	tr := made(t, mkdir("/a"), create("/f", 1))
	for _, to := range []string{"/x", "/x/y", "/a", "/f", "/f/x", "/y/z", "/f/y/z"} {
		refuses(t, tr, rename("/x", to), api.ErrNoEnt)
		refuses(t, tr, rename("/f/y", to), api.ErrNotDir)
	}
}

// P7.4: To is Path or below it: ahead of what stands there, and of what is open.
func TestRenameInside(t *testing.T) {
	tr := made(t, mkdir("/a"), mkdir("/a/b"), create("/a/f", 1), create("/g", 1))
	for _, to := range []string{"/a", "/a/b", "/a/b/c", "/a/x", "/a/x/y", "/a/f", "/a/f/x"} {
		refuses(t, tr, rename("/a", to), api.ErrInside)
	}
	refuses(t, tr, rename("/g", "/g"), api.ErrInside)
	refuses(t, tr, rename("/g", "/g/x"), api.ErrInside)
	refuses(t, tr, rename("/a/f", "/a/b"), api.ErrExists)
	takes(t, tr, remove("/a/f"))
	takes(t, tr, rename("/a", "/ab")) // which is beside it
	refuses(t, tr, rename("/ab/b", "/ab"), api.ErrExists)
}

// P7.4: the open ones.
func TestRenameOfOpen(t *testing.T) {
	tr := made(t, mkdir("/a"), mkdir("/a/b"), mkdir("/a/b/c"), create("/a/b/c/f", 1), create("/g", 0), mkdir("/d"))
	for _, path := range []string{"/g", "/a", "/a/b", "/a/b/c", "/a/b/c/f"} {
		refuses(t, tr, rename(path, "/x"), api.ErrOpen)
		refuses(t, tr, rename(path, "/d/x"), api.ErrOpen)
	}
	refuses(t, tr, rename("/g", "/d"), api.ErrExists)
	refuses(t, tr, rename("/g", "/y/z"), api.ErrNoEnt)
	refuses(t, tr, rename("/g", "/a/b/c/f/z"), api.ErrNotDir)
	takes(t, tr, limit("/d", 1))
	takes(t, tr, mkdir("/d/full"))
	refuses(t, tr, rename("/g", "/d/x"), api.ErrOpen) // ahead of the quota
	refuses(t, tr, rename("/a/b", "/d/x"), api.ErrOpen)
	takes(t, tr, rename("/d", "/e")) // an open file beside it is of no matter
	takes(t, tr, expire("/a/b/c/f"))
	takes(t, tr, rename("/a", "/x"))
	refuses(t, tr, rename("/g", "/y"), api.ErrOpen)
}

// P7.4: what stands below would have too many parts.
func TestRenameTooDeep(t *testing.T) {
	tr := made(t, append(closed("/f"), mkdir("/a"), mkdir("/a/b"), create("/a/b/open", 1), mkdir("/e"))...)
	deep := ""
	for range api.MaxDepth - 1 {
		deep += "/d"
		takes(t, tr, mkdir(deep))
	}
	up := deep[:len(deep)-2] // with MaxDepth-2 parts
	refuses(t, tr, rename("/a", deep+"/x"), api.ErrPath)
	refuses(t, tr, rename("/a", up+"/x"), api.ErrPath)             // /a/b/open would have one too many; ahead of ErrOpen
	refuses(t, tr, rename("/a", up[:len(up)-2]+"/x"), api.ErrOpen) // just so many
	takes(t, tr, expire("/a/b/open"))
	refuses(t, tr, rename("/a", up+"/x"), api.ErrPath)
	takes(t, tr, limit("/d", api.MaxDepth-1)) // room for one, not for three
	refuses(t, tr, rename("/a", up+"/x"), api.ErrPath)
	refuses(t, tr, rename("/a", up[:len(up)-2]+"/x"), api.ErrQuota)
	takes(t, tr, rename("/e", deep+"/x")) // nothing stands below
	takes(t, tr, limit("/d", 0))
	takes(t, tr, remove(deep+"/x"))
	takes(t, tr, rename("/f", deep+"/x"))
	takes(t, tr, rename("/a", up[:len(up)-2]+"/x"))
	if _, e := tr.Stat(up[:len(up)-2] + "/x/b/open"); e != api.OK {
		t.Errorf("Stat of the deepest: %d", e)
	}
}

// P7.4: what stands below would have too many bytes.
func TestRenameTooLong(t *testing.T) {
	long := "/" + strings.Repeat("n", api.MaxName)
	tr := made(t, mkdir(long), mkdir(long+long), mkdir("/a"), mkdir("/a"+long), create("/a"+long+"/f", 1), mkdir("/a/0"))
	to := long + long + "/"
	fit := api.MaxPath - len(to) - len(long) - len("/f") // bytes of a name with which all fits
	refuses(t, tr, rename("/a", to+strings.Repeat("x", fit+1)), api.ErrPath)
	refuses(t, tr, rename("/a", to+strings.Repeat("x", fit)), api.ErrOpen)
	takes(t, tr, expire("/a"+long+"/f"))
	refuses(t, tr, rename("/a", to+strings.Repeat("x", fit+1)), api.ErrPath)
	takes(t, tr, rename("/a", to+strings.Repeat("x", fit)))
	if got := tr.Entries(); len(got[len(got)-1].Path) != api.MaxPath {
		t.Errorf("the last path has %d bytes", len(got[len(got)-1].Path))
	}
}

// P7.3, P7.4: of the ancestors of To those of Path are left out.
func TestRenameRoom(t *testing.T) {
	tr := made(t, mkdir("/a"), mkdir("/a/b"), mkdir("/a/b/c"), mkdir("/a/b/c/x"), mkdir("/a/d"), mkdir("/e"), mkdir("/e/f"))
	for path, quota := range map[string]int{"/": 1, "/a": 1, "/a/b": 1, "/a/d": 1, "/e": 2, "/e/f": 3} {
		takes(t, tr, limit(path, quota)) // all but /a/d, /e and /e/f hold more than they may
	}
	takes(t, tr, rename("/a/b/c", "/a/b/d"))
	refuses(t, tr, rename("/a/b/d", "/a/d/c"), api.ErrQuota) // two would stand there
	takes(t, tr, rename("/a/b/d", "/a/c"))
	takes(t, tr, rename("/a/c", "/c"))
	refuses(t, tr, rename("/c", "/a/c"), api.ErrQuota)
	refuses(t, tr, rename("/c", "/e/f/c"), api.ErrQuota) // /e has room for one more
	refuses(t, tr, rename("/c", "/e/c"), api.ErrQuota)
	takes(t, tr, rename("/c/x", "/e/f/x"))
	refuses(t, tr, rename("/c", "/e/f/c"), api.ErrQuota) // and now for none
	takes(t, tr, limit("/e", 3))
	takes(t, tr, rename("/c", "/e/f/c")) // /e/f is full with it
	wantInfo(t, tr, "/e", tree.Info{Dir: true, Quota: 3, Count: 3})
	wantInfo(t, tr, "/e/f", tree.Info{Dir: true, Quota: 3, Count: 2})
	wantInfo(t, tr, "/", tree.Info{Dir: true, Quota: 1, Count: 7})
	refuses(t, tr, mkdir("/e/f/y"), api.ErrQuota)
	takes(t, tr, rename("/e/f/x", "/e/f/c/x"))
	takes(t, tr, rename("/e/f/c", "/e/c")) // upwards there is always room
	takes(t, tr, limit("/e/f", 1))
	refuses(t, tr, rename("/e/c", "/e/f/c"), api.ErrQuota) // its own quota
	takes(t, tr, limit("/e/f", 2))
	takes(t, tr, rename("/e/c", "/e/f/c"))
}

// P7.4: the quota of what is renamed goes with it, and isn't asked.
func TestRenameKeepsTheQuota(t *testing.T) {
	tr := made(t, mkdir("/a"), mkdir("/a/b"), mkdir("/a/c"), limit("/a", 1))
	takes(t, tr, rename("/a", "/d"))
	wantInfo(t, tr, "/d", tree.Info{Dir: true, Quota: 1, Count: 2})
	refuses(t, tr, mkdir("/d/e"), api.ErrQuota)
}
