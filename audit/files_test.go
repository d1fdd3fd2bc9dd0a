package audit_test

import (
	"math"
	"slices"
	"strings"
	"testing"
	"unsafe"

	"mahout/api"
	"mahout/audit"
	"mahout/tree"
)

// P24.2
func TestFiles(t *testing.T) {
	wantFiles(t, nil)
	wantFiles(t, []audit.Change{})
	wantFiles(t, []audit.Change{change(0, mkdir("/d")), change(0, mkdir("/d/e"))})
	wantFiles(t, []audit.Change{change(0, create("/f"))}, "/f", "")
	wantFiles(t, []audit.Change{change(0, create("/f")), adding(0, "/f", "a\x00"), adding(0, "/f", "\xffb"), adding(0, "/f", "a\x00"), change(0, shut("/f"))}, "/f", "a\x00\xffba\x00")
}

// P24.2: the order is that of the paths' parts, not of their bytes.
func TestFilesInOrder(t *testing.T) {
	var changes []audit.Change
	for _, path := range []string{"/b.c", "/b!", "/b"} {
		changes = append(changes, change(0, mkdir(path)))
	}
	for _, path := range []string{"/z", "/b!/f", "/b/z", "/b.c/f", "/B", "/b/a", "/b.d"} {
		changes = append(changes, change(0, create(path)), adding(0, path, path))
	}
	var want []string
	for _, path := range []string{"/B", "/b/a", "/b/z", "/b!/f", "/b.c/f", "/b.d", "/z"} {
		want = append(want, path, path)
	}
	wantFiles(t, changes, want...)
}

// P24.2: what the tree refuses is left out, and what comes behind it is applied.
func TestFilesWithoutWhatIsRefused(t *testing.T) {
	wantFiles(t, []audit.Change{
		{Op: tree.Op{Kind: 77, Path: "/x"}}, change(0, create("f")), change(0, create("/d/f")), adding(0, "/f", "no"), change(0, create("/f")), adding(0, "/f", "a"),
		changeOf(2, 0, create("/f")), adding(0, "/f", ""), adding(0, "/f", strings.Repeat("x", api.MaxBlock+1)), adding(0, "/", "no"), adding(0, "/f", "b"), change(0, rename("/f", "/g")),
		adding(0, "/f", "c"), change(0, shut("/f")), change(0, shut("/f")), adding(0, "/f", "no"), change(0, rename("/f", "/f/x")), change(0, rename("/f", "/g")),
		change(0, create("/h")), change(0, remove("/h/x")), change(0, limit("/", 1)), change(0, create("/i")), adding(0, "/h", "d"), adding(0, "/i", "no"),
	}, "/g", "abc", "/h", "d")
}

// P24.2: nobody asks about steps, and of an Add nothing but what the tree asks: the model takes it, and its data are the bytes.
func TestFilesOfWrongChanges(t *testing.T) {
	other := adding(-9, "/f", "abc")
	other.Op.Piece.Sum++
	shorter := adding(math.MinInt, "/f", "de")
	shorter.Op.Piece.Size = 1
	more := change(0, create("/g"))
	more.Data = "no"
	wantFiles(t, []audit.Change{change(9, create("/f")), other, shorter, more}, "/f", "abcde", "/g", "")
}

// P24.3: what is handed in stays, the room behind a list's length included.
func TestHandedInStays(t *testing.T) {
	made := func() ([]audit.Change, []audit.Call) {
		return []audit.Change{change(1, create("/f")), adding(2, "/f", "ab"), change(3, mkdir("/d")), change(4, rename("/d", "/e")), change(5, remove("/e"))},
			[]audit.Call{list(0, 9, 3, "/", "d", "f"), read(0, 9, 2, "/f", "ab"), refused(0, 9, 1, create("/f"), api.ErrExists), write(0, 9, 0, create("/f")), list(0, 9, 0, "/", "no"), {}}
	}
	changes, calls := made()
	for range 2 {
		wantVerdict(t, changes[:4], calls[:4], 0, "")
		wantVerdict(t, changes[:4], calls[:5], 4, "names")
		wantFiles(t, changes[:4], "/f", "ab")
		names := calls[0].Names[:1]
		c := calls[0]
		c.Names = names
		wantVerdict(t, changes[:4], []audit.Call{c}, 0, "names")
	}
	wantChanges, wantCalls := made()
	sameCall := func(a, b audit.Call) bool {
		names := slices.Equal(a.Names, b.Names)
		return names && a.Kind == b.Kind && a.Client == b.Client && a.Op == b.Op && a.Start == b.Start && a.End == b.End && a.Done == b.Done && a.At == b.At && a.Code == b.Code && a.Data == b.Data
	}
	if !slices.Equal(changes, wantChanges) || !slices.EqualFunc(calls, wantCalls, sameCall) {
		t.Errorf("what was handed in: %v, %v", changes, calls)
	}
}

// An answer is new memory: its lists and its texts.
func TestFilesAreNewMemory(t *testing.T) {
	changes := []audit.Change{change(0, mkdir("/dir")), change(0, create("/dir/file")), adding(0, "/dir/file", "abc"), change(0, create("/other")), adding(0, "/other", "ab"), adding(0, "/other", "c")}
	paths, texts := audit.Files(changes)
	lie := map[*byte]string{}
	for _, c := range changes {
		lie[unsafe.StringData(c.Op.Path)] = c.Op.Path
		if c.Data != "" {
			lie[unsafe.StringData(c.Data)] = c.Data
		}
	}
	otherPaths, otherTexts := audit.Files(changes)
	for _, text := range slices.Concat(paths, texts, otherPaths, otherTexts) {
		if other, there := lie[unsafe.StringData(text)]; there {
			t.Errorf("%q and %q share memory", text, other)
		}
		lie[unsafe.StringData(text)] = text
	}
	paths[0], texts[0] = "x", "x"
	_, _ = append(paths[:1], "y"), append(texts[:1], "y")
	wantFiles(t, changes, "/dir/file", "abc", "/other", "abc")
	if otherPaths[0] != "/dir/file" || otherTexts[0] != "abc" {
		t.Error("two answers share their lists")
	}
}

// P1: nothing that can be handed in makes it panic, and all of it ends.
func TestAnything(t *testing.T) {
	numbers := []int{math.MinInt, -1, 0, 1, 2, 3, math.MaxInt}
	texts := []string{"", "/", "/f", "f", "\xff", strings.Repeat("/", 1<<16), strings.Repeat("n", 1<<16)}
	var changes []audit.Change
	var calls []audit.Call
	for i, text := range texts {
		for _, n := range numbers {
			for kind := range 10 {
				op := tree.Op{Kind: kind, Path: text, To: texts[(i+kind)%len(texts)], Client: n, Quota: n, Piece: api.Piece{Size: n}}
				changes = append(changes, audit.Change{Step: n, Client: n, Op: op, Data: text})
				calls = append(calls, audit.Call{Kind: kind % 5, Client: n, Op: op, Start: -n, End: n, Done: kind%2 == 0, At: n, Code: api.Errno(n), Data: text, Names: texts})
			}
		}
	}
	audit.Files(changes)
	for i := range changes {
		audit.Check(changes[i:], calls)
		audit.Check(changes[i:i+1], calls[i:])
	}
	for i := range calls {
		audit.Check(nil, calls[i:])
		audit.Check(threeChanges(), calls[i:])
	}
}

// P1: a long history is gone through but once, wherever the calls' moments are.
func TestLongHistory(t *testing.T) {
	changes := []audit.Change{change(0, create("/f"))}
	var calls []audit.Call
	for i := range 20000 {
		changes = append(changes, change(i, limit("/", i)))
		calls = append(calls, refused(0, to9, 20000-i, create("/f"), api.ErrExists))
	}
	wantRight(t, changes, calls...)
}
