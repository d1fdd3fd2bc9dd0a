package names_test

import (
	"fmt"
	"math"
	"testing"

	"mahout/api"
	"mahout/disk"
	"mahout/image"
	"mahout/names"
	"mahout/record"
	"mahout/tree"
)

func refused(t *testing.T, what string, d *disk.Disk, boot, every int, errno api.Errno) {
	t.Helper()
	if n, e := names.Open(d, boot, every); n != nil || e != errno {
		t.Errorf("%s: Open: %v, %d, not %d", what, n, e, errno)
	}
}

// P12.1
func TestOpenOfNothing(t *testing.T) {
	for _, capacity := range []int{-1, 0, roomy} {
		for _, every := range []int{0, 1, math.MaxInt} {
			n := opened(t, disk.New(capacity), 1, every)
			wantState(t, "nothing", n, state{Clean: true, Entries: tree.New().Entries()})
			wantSync(t, n)
			wantState(t, "nothing, synced", n, state{Clean: true, Entries: tree.New().Entries()})
		}
	}
}

// P12.1: ErrArg comes first, and nothing has been done to the disk then.
func TestOpenOfWrongNumbers(t *testing.T) {
	d := holding(t, roomy, "edits-0-0", "changed!", "tmp", "left over")
	for _, c := range [][2]int{{0, 0}, {-1, 0}, {math.MinInt, 0}, {1, -1}, {1, math.MinInt}, {0, -1}} {
		refused(t, "wrong numbers", d, c[0], c[1], api.ErrArg)
		refused(t, "wrong numbers, no disk", nil, c[0], c[1], api.ErrArg)
	}
	wantFiles(t, "wrong numbers", d, "edits-0-0", "changed!", "tmp", "left over")
	refused(t, "no disk", nil, 1, 0, api.ErrArg)
}

// P12.1: the errors of layer 10's Open.
func TestOpenOfWrongJournals(t *testing.T) {
	good := written(record.Of(1, 1, 0, mkdir("/a")))
	refused(t, "a changed record", holding(t, roomy, "edits-0-0", good[:9]+"\xff"+good[10:]), 1, 0, api.ErrCorrupt)
	refused(t, "a torn image", holding(t, roomy, "image-0", good[:9]), 1, 0, api.ErrCorrupt)
	refused(t, "no room to cut", holding(t, 2*len(good), "edits-0-0", good+"t"), 1, 0, api.ErrFull)
	n := opened(t, holding(t, 2*len(good)+1, "edits-0-0", good+"t"), 1, 0)
	wantPaths(t, "a torn end", n, "/a")
}

// P12.1: an image that is no checkpoint.
func TestOpenOfWrongImages(t *testing.T) {
	good := image.Encode(tree.New(), []image.Seen{{Client: 1, Call: 1}})
	for _, body := range []string{"x", "\x00", good + "\x00", good[:len(good)-1], written(record.Of(1, 1, 0, mkdir("/a")))} {
		refused(t, "no checkpoint", holding(t, roomy, "image-3", framed(body)), 1, 0, api.ErrCorrupt)
		refused(t, "no checkpoint, with records", holding(t, roomy, "image-3", framed(body), "edits-3-0", written(record.Of(1, 1, 0, mkdir("/a")))), 1, 0, api.ErrCorrupt)
	}
	n := opened(t, holding(t, roomy, "image-3", framed(good)), 1, 0)
	wantSeen(t, "a checkpoint", n, image.Seen{Client: 1, Call: 1})
	n = opened(t, holding(t, roomy, "image-3", framed(""), "edits-3-0", written(record.Of(2, 2, 0, mkdir("/a")))), 1, 0)
	wantPaths(t, "an empty image", n, "/a")
}

// P12.1: a record that is no change, or no change that can be made where it stands.
func TestOpenOfWrongRecords(t *testing.T) {
	good := record.Of(1, 1, 0, mkdir("/a"))
	encoded := record.Encode(good)
	wrongSum, otherKind := record.Of(1, 2, 0, mkdir("/b")), look(1, 1, "/")
	wrongSum.N[6] = -1
	bodies := []string{
		"", "x", encoded + "\x00", encoded[:len(encoded)-1],
		record.Encode(wrongSum), record.Encode(otherKind), record.Encode(answer(1, 1, api.OK)),
		record.Encode(record.Of(1, 2, 0, mkdir("/a"))), // it is there already
		record.Encode(record.Of(1, 2, 0, mkdir("/b/c"))),
		record.Encode(record.Of(1, 2, 0, tree.Op{Kind: 9, Path: "/b"})),
		record.Encode(record.Of(0, 0, 0, tree.Op{Kind: tree.Expire, Path: "/a"})),
	}
	for _, body := range bodies {
		for _, edits := range []string{written(good) + framed(body), written(good) + framed(body) + written(record.Of(1, 3, 0, mkdir("/c")))} {
			refused(t, "a wrong record", holding(t, roomy, "edits-0-0", edits), 1, 0, api.ErrCorrupt)
		}
	}
	inside := record.Of(1, 2, 0, mkdir("/a/b"))
	refused(t, "in another order", holding(t, roomy, "edits-0-0", written(inside, good)), 1, 0, api.ErrCorrupt)
	n := opened(t, holding(t, roomy, "edits-0-0", written(good, inside)), 1, 0)
	wantPaths(t, "in their order", n, "/a", "/a/b")
}

// P12.1: whatever boot and numbers stand in the records, and whichever kinds, the ops are applied behind the image.
func TestOpen(t *testing.T) {
	ops := []tree.Op{
		mkdir("/a"),
		{Kind: tree.Create, Path: "/a/f", Client: 3},
		{Kind: tree.Add, Path: "/a/f", Client: 3, Piece: api.Piece{Block: api.Block{Client: 3, Call: 4, Try: 5}, Size: 6, Sum: math.MaxUint32}},
		{Kind: tree.Expire, Path: "/a/f"},
		{Kind: tree.Rename, Path: "/a", To: "/b"},
		{Kind: tree.Limit, Path: "/b", Quota: 7},
		{Kind: tree.Delete, Path: "/b/f"},
		mkdir("/c"),
	}
	for laid := range len(ops) + 1 { // so many of them are in the image
		files := []string{"edits-0-0", ""}
		if laid > 0 {
			files = []string{"edits-5-0", "", "image-5", framed(image.Encode(grown(t, ops[:laid]...), []image.Seen{{Client: 100, Call: 100}}))}
		}
		for i, op := range ops[laid:] {
			files[1] += written(record.Of(1, 5, extremes()[i%5], op))
		}
		d := holding(t, roomy, files...)
		n := opened(t, d, 3, 0)
		seen := []image.Seen{{Client: 1, Call: 5}, {Client: 100, Call: 100}}
		if laid == 0 {
			seen = seen[:1]
		}
		if laid == len(ops) {
			seen = seen[1:]
		}
		wantState(t, "opened", n, state{Clean: true, Seen: seen, Entries: grown(t, ops...).Entries()})
		wantFiles(t, "opened", d, files...)
	}
}

// P12.1: of each client the last call counts that stands in the image or behind it, with the answer of code OK; of those below 1 none.
func TestOpenKnowsCalls(t *testing.T) {
	seen := []image.Seen{{Client: -5, Call: 1}, {Client: 0, Call: 2}, {Client: 1, Call: 30, Code: api.ErrExists}, {Client: 2, Call: 40}, {Client: 3, Call: math.MinInt}}
	d := holding(t, roomy,
		"image-1", framed(image.Encode(tree.New(), seen)),
		"edits-1-0", written(
			record.Of(2, 41, 0, mkdir("/a")),
			record.Of(0, 7, 0, mkdir("/b")),
			record.Of(-1, 8, 0, mkdir("/c")),
			record.Of(4, 9, 0, mkdir("/d")),
			record.Of(5, 2, 0, mkdir("/e")),
			record.Of(5, 1, 0, mkdir("/f")), // the last one counts, not the greatest
		))
	n := opened(t, d, 1, 0)
	all := []image.Seen{{Client: 1, Call: 30}, {Client: 2, Call: 41}, {Client: 3, Call: math.MinInt}, {Client: 4, Call: 9}, {Client: 5, Call: 1}}
	wantSeen(t, "opened", n, all...)
	again := mkdir("/again")
	for _, s := range all {
		if s.Call != math.MinInt {
			wantAsk(t, n, change(s.Client, s.Call-1, again))
		}
		for range 2 {
			wantAsk(t, n, change(s.Client, s.Call, again), answer(s.Client, s.Call, api.OK))
		}
	}
	if n.Made() != 0 || n.Waiting() != 0 {
		t.Errorf("Made %d, Waiting %d", n.Made(), n.Waiting())
	}
	for i, s := range all {
		made(t, n, s.Client, s.Call+1, mkdir("/new"+string(rune('a'+i))))
	}
}

// P12.3: an image that Sync lays holds just what Seen tells: of a client below 1 nothing is remembered.
func TestOpenAndLayAnew(t *testing.T) {
	seen := []image.Seen{{Client: -5, Call: 1}, {Client: 1, Call: 30, Code: api.ErrExists}}
	d := holding(t, roomy, "image-1", framed(image.Encode(tree.New(), seen)), "edits-1-0", written(record.Of(2, 1, 0, mkdir("/a"))))
	n := opened(t, d, 1, 1)
	wantSync(t, n)
	wantFiles(t, "laid", d, "image-2", framed(image.Encode(grown(t, mkdir("/a")), []image.Seen{{Client: 1, Call: 30}, {Client: 2, Call: 1}})))
}

// P12.3: as soon as there are as many records as every tells, Sync lays an image; records that Open found count too.
func TestRoll(t *testing.T) {
	paths := []string{"/a", "/b", "/c", "/d", "/e", "/f", "/g"}
	for every := range 9 {
		d := disk.New(roomy)
		n := opened(t, d, 1, every)
		var ops []tree.Op
		edits, laid, count := "", "", 0
		for i, path := range paths {
			if i == 3 {
				n = opened(t, d, 1, every)
			}
			ops = append(ops, mkdir(path))
			made(t, n, 1, i+1, mkdir(path))
			edits += written(record.Of(1, i+1, 0, mkdir(path)))
			count++
			if every > 0 && count >= every {
				edits, laid, count = "", framed(image.Encode(grown(t, ops...), []image.Seen{{Client: 1, Call: i + 1}})), 0
			}
			wantLaid(t, d, laid, edits)
		}
	}
}

// wantLaid: does the disk hold this image and these records, in whichever segment?
func wantLaid(t *testing.T, d *disk.Disk, laid, edits string) {
	t.Helper()
	images, records := "", ""
	for _, name := range d.List() {
		s, _ := d.Read(name)
		if name[0] == 'i' {
			images += s
		} else {
			records += s
		}
	}
	if images != laid || records != edits || d.Pending() != 0 {
		t.Errorf("%q: the image %.100x, the records %.100x, not %.100x and %.100x; %d changes", d.List(), images, records, laid, edits, d.Pending())
	}
}

// P12.3: several records ahead of one Sync are more than every, and a call with an error isn't in the image.
func TestRollOfMany(t *testing.T) {
	d := disk.New(roomy)
	n := opened(t, d, 1, 3)
	for i, path := range []string{"/a", "/b", "/c", "/d", "/e"} {
		wantAsk(t, n, change(1, i+1, mkdir(path)))
	}
	wantAsk(t, n, change(1, 6, mkdir("/e")))
	n.Sync()
	all := grown(t, mkdir("/a"), mkdir("/b"), mkdir("/c"), mkdir("/d"), mkdir("/e"))
	wantLaid(t, d, framed(image.Encode(all, []image.Seen{{Client: 1, Call: 5}})), "")
	if !n.Clean() || n.Waiting() != 0 || n.Made() != 5 {
		t.Errorf("Clean %v, Waiting %d, Made %d", n.Clean(), n.Waiting(), n.Made())
	}
	wantAsk(t, n, change(1, 6, mkdir("/e")), answer(1, 6, api.ErrExists))
	n = opened(t, d, 1, 3)
	wantSeen(t, "opened again", n, image.Seen{Client: 1, Call: 5})
}

// P12.3: where there is no room for an image, the records stay, and the answers are given all the same.
func TestRollWithoutRoom(t *testing.T) {
	edits := written(record.Of(1, 1, 0, mkdir("/a")), record.Of(1, 2, 0, mkdir("/b")))
	d := disk.New(len(edits) + 5)
	n := opened(t, d, 1, 1)
	wantAsk(t, n, change(1, 1, mkdir("/a")))
	wantAsk(t, n, change(1, 2, mkdir("/b")))
	wantSync(t, n, answer(1, 1, api.OK), answer(1, 2, api.OK))
	wantLaid(t, d, "", edits)
	if !n.Clean() {
		t.Error("not clean")
	}
	n = opened(t, d, 2, 1)
	wantPaths(t, "opened again", n, "/a", "/b")
}

// P12.3: an image that is too long for a frame is of no matter either.
func TestRollOfTooMuch(t *testing.T) {
	var ops []tree.Op
	top := ""
	for range 3 {
		top += "/" + long(api.MaxName)
		ops = append(ops, mkdir(top))
	}
	for i := range 5000 { // of each of them the image has the whole path
		ops = append(ops, mkdir(top+fmt.Sprintf("/%044d", i)))
	}
	all := grown(t, ops...)
	if len(image.Encode(all, nil)) <= api.MaxFrame {
		t.Fatal("the image isn't long enough")
	}
	edits := ""
	d := disk.New(roomy)
	n := opened(t, d, 1, len(ops))
	for i, op := range ops {
		n.Ask(change(1, i+1, op))
	}
	for i, op := range ops {
		edits += written(record.Of(1, i+1, 0, op))
	}
	if given := n.Sync(); len(given) != len(ops) {
		t.Errorf("%d answers", len(given))
	}
	wantLaid(t, d, "", edits)
	wantSame(t, "Entries", n.Entries(), all.Entries())
}
