package image_test

import (
	"math"
	"math/rand"
	"slices"
	"strconv"
	"strings"
	"testing"

	"mahout/api"
	"mahout/image"
	"mahout/tree"
	"mahout/wire"
)

// forms lays numbers (int), texts (string) and bools behind one another.
func forms(parts ...any) string {
	var p wire.Pack
	for _, part := range parts {
		switch part := part.(type) {
		case int:
			p.Int(part)
		case string:
			p.Text(part)
		case bool:
			p.Bool(part)
		default:
			panic(part)
		}
	}
	return p.Bytes()
}

func sameEntry(a, b tree.Entry) bool {
	if !slices.Equal(a.Pieces, b.Pieces) {
		return false
	}
	return a.Path == b.Path && a.Dir == b.Dir && a.Open == b.Open && a.Holder == b.Holder && a.Quota == b.Quota
}

// built is the tree of the root and these entries.
func built(t *testing.T, entries ...tree.Entry) *tree.Tree {
	t.Helper()
	tr, e := tree.Build(append([]tree.Entry{{Path: "/", Dir: true}}, entries...))
	if e != api.OK {
		t.Fatalf("Build(%v): %d", entries, e)
	}
	return tr
}

// some is a tree with all that an entry may have.
func some(t *testing.T) *tree.Tree {
	t.Helper()
	return built(t,
		tree.Entry{Path: "/a", Dir: true, Quota: 300},
		tree.Entry{Path: "/a/f", Open: true, Holder: 3, Pieces: []api.Piece{
			{Block: api.Block{Client: 1, Call: 2, Try: 3}, Size: 4, Sum: 5},
			{Block: api.Block{Client: -1, Call: math.MaxInt, Try: math.MinInt}, Size: api.MaxBlock, Sum: math.MaxUint32},
		}},
		tree.Entry{Path: "/a/g", Open: true, Holder: -70},
		tree.Entry{Path: "/h", Pieces: []api.Piece{{Size: 1}}},
	)
}

// someForms are what comes of that tree, ahead of the Seens.
func someForms() []any {
	return []any{
		5,
		"/", true, 0,
		"/a", true, 300,
		"/a/f", false, true, 3, 2, 1, 2, 3, 4, 5, -1, math.MaxInt, math.MinInt, 4096, 4294967295,
		"/a/g", false, true, -70, 0,
		"/h", false, false, 0, 1, 0, 0, 0, 1, 0,
	}
}

// P8.1: the chapter's example.
func TestExample(t *testing.T) {
	const bytes = "\x02\x02\x2F\x01\x00\x00"
	if got := image.Encode(tree.New(), nil); got != bytes {
		t.Errorf("Encode: %x", got)
	}
	tr, seen, e := image.Decode(bytes)
	if e != api.OK || len(seen) != 0 || len(tr.Entries()) != 1 {
		t.Errorf("Decode: %v, %v, %d", tr, seen, e)
	}
}

// P8.1
func TestEncode(t *testing.T) {
	seen := []image.Seen{{Client: 1, Call: 20, Code: api.OK}, {Client: 2, Call: -3, Code: api.ErrQuota}}
	if got, want := image.Encode(some(t), nil), forms(append(someForms(), 0)...); got != want {
		t.Errorf("Encode: %x, not %x", got, want)
	}
	if got, want := image.Encode(some(t), seen), forms(append(someForms(), 2, 1, 20, 0, 2, -3, 74)...); got != want {
		t.Errorf("Encode: %x, not %x", got, want)
	}
	if got, want := image.Encode(nil, seen), forms(0, 2, 1, 20, 0, 2, -3, 74); got != want {
		t.Errorf("Encode of a nil tree: %x, not %x", got, want)
	}
	if got := image.Encode(nil, []image.Seen{}); got != "\x00\x00" {
		t.Errorf("Encode of nothing: %x", got)
	}
}

// P8.1: the Clients rise, and of one Client the last in the list counts.
func TestEncodeSeens(t *testing.T) {
	for _, c := range []struct {
		seen []image.Seen
		want []any
	}{
		{[]image.Seen{{3, 1, 0}, {1, 2, 0}, {2, 3, 0}}, []any{3, 1, 2, 0, 2, 3, 0, 3, 1, 0}},
		{[]image.Seen{{1, 9, 70}, {1, 4, 71}}, []any{1, 1, 4, 71}},
		{[]image.Seen{{1, 4, 71}, {1, 9, 70}}, []any{1, 1, 9, 70}},
		{[]image.Seen{{1, 5, 5}, {1, 5, 5}, {1, 5, 5}}, []any{1, 1, 5, 5}},
		{[]image.Seen{{2, 1, 0}, {1, 1, 0}, {2, 3, 0}, {1, 5, 0}, {2, 2, 0}}, []any{2, 1, 5, 0, 2, 2, 0}},
		{[]image.Seen{{0, 0, 0}}, []any{1, 0, 0, 0}},
		{[]image.Seen{{math.MaxInt, 1, 2}, {math.MinInt, 3, 4}, {-1, 5, -6}, {0, 7, 8}}, []any{4, math.MinInt, 3, 4, -1, 5, -6, 0, 7, 8, math.MaxInt, 1, 2}},
	} {
		before := slices.Clone(c.seen)
		if got, want := image.Encode(nil, c.seen), "\x00"+forms(c.want...); got != want {
			t.Errorf("Encode of %v: %x, not %x", c.seen, got, want)
		}
		if !slices.Equal(c.seen, before) {
			t.Errorf("%v is %v now", before, c.seen)
		}
	}
}

// P8.1: of many the last counts too, wherever it stands.
func TestEncodeManySeens(t *testing.T) {
	r := rand.New(rand.NewSource(1))
	var seen []image.Seen
	last := map[int]image.Seen{}
	for i := range 1000 {
		s := image.Seen{Client: r.Intn(30) - 5, Call: i, Code: api.Errno(r.Intn(99))}
		seen, last[s.Client] = append(seen, s), s
	}
	want := []any{0, 30}
	for client := -5; client < 25; client++ {
		want = append(want, client, last[client].Call, int(last[client].Code))
	}
	if image.Encode(nil, seen) != forms(want...) {
		t.Error("Encode of many")
	}
}

// wantBack: the bytes are decoded to these, and encoded to the bytes again.
func wantBack(t *testing.T, s string, entries []tree.Entry, seen []image.Seen) {
	t.Helper()
	tr, got, e := image.Decode(s)
	if tr == nil || e != api.OK {
		t.Fatalf("Decode(%x): %v, %d", s, tr, e)
	}
	if !slices.EqualFunc(tr.Entries(), entries, sameEntry) || !slices.Equal(got, seen) {
		t.Errorf("Decode(%x): %v, %v, not %v, %v", s, tr.Entries(), got, entries, seen)
	}
	if again := image.Encode(tr, got); again != s {
		t.Errorf("Encode: %x, not %x", again, s)
	}
}

// P8.2, P8.3
func TestDecode(t *testing.T) {
	seen := []image.Seen{{math.MinInt, 3, 4}, {-1, math.MaxInt, math.MinInt}, {0, 7, 8}, {1, 1, 2}}
	for _, tr := range []*tree.Tree{tree.New(), some(t), built(t, tree.Entry{Path: "/full", Pieces: slices.Repeat([]api.Piece{{Size: 9}}, api.MaxBlocks)})} {
		wantBack(t, image.Encode(tr, nil), tr.Entries(), nil)
		wantBack(t, image.Encode(tr, seen), tr.Entries(), seen)
	}
	over, _ := tree.Build([]tree.Entry{{Path: "/", Dir: true, Quota: 1}, {Path: "/a", Dir: true}, {Path: "/b", Dir: true}}) // quotas aren't asked
	wantBack(t, image.Encode(over, seen), over.Entries(), seen)
}

// P8.2: what was decoded is a tree like any other.
func TestDecodeAndGoOn(t *testing.T) {
	tr, _, _ := image.Decode(image.Encode(some(t), nil))
	if e := tr.Apply(tree.Op{Kind: tree.Add, Path: "/a/f", Client: 3, Piece: api.Piece{Size: 10}}); e != api.OK {
		t.Errorf("Add: %d", e)
	}
	if info, e := tr.Stat("/a/f"); info.Size != api.MaxBlock+14 || e != api.OK {
		t.Errorf("Stat: %v, %d", info, e)
	}
	if info, e := tr.Stat("/"); info.Count != 4 || e != api.OK {
		t.Errorf("Stat: %v, %d", info, e)
	}
}

// refuses: Decode answers the error and nothing else.
func refuses(t *testing.T, s string, errno api.Errno) {
	t.Helper()
	if tr, seen, e := image.Decode(s); tr != nil || len(seen) != 0 || e != errno {
		t.Errorf("Decode(%.300x): %v, %v, %d, not %d", s, tr, seen, e, errno)
	}
}

// P8.2: a form that ends too early, wherever.
func TestDecodeOfABeginning(t *testing.T) {
	whole := image.Encode(some(t), []image.Seen{{1, 2, 3}, {500, 6, 7}})
	for n := range len(whole) {
		s := whole[:n]
		want := api.ErrShort
		if n < 5 && n > 0 { // five entries aren't below so few bytes
			want = api.ErrForm
		}
		refuses(t, s, want)
	}
	refuses(t, whole+"\x00", api.ErrTail)
	refuses(t, whole+whole, api.ErrTail)
	refuses(t, whole+"\x80", api.ErrTail)
}

// with is the forms of a tree with these behind the root, which is counted among so many entries.
func with(entries int, parts ...any) string {
	return forms(append([]any{entries, "/", true, 0}, parts...)...)
}

// P8.2: what is no form, wherever.
func TestDecodeOfNoForms(t *testing.T) {
	long := strings.Repeat("x", 100)
	refuses(t, "", api.ErrShort)
	refuses(t, "\x80\x00"+long, api.ErrForm)
	refuses(t, "\x80", api.ErrShort)
	refuses(t, forms(1, -1)+long, api.ErrForm) // the length of a path
	refuses(t, forms(1, api.MaxText+1)+long, api.ErrLong)
	refuses(t, forms(1, 101)+long, api.ErrShort)
	refuses(t, forms(1, "/")+"\x02"+long, api.ErrForm) // is it a directory?
	refuses(t, forms(1, "/", true)+"\x80\x00"+long, api.ErrForm)
	refuses(t, forms(1, "/", true)+strings.Repeat("\xff", 100), api.ErrForm)
	refuses(t, with(2, "/f", false)+"\x03"+long, api.ErrForm) // is it open?
	refuses(t, with(2, "/f", false, true)+"\xff\x00"+long, api.ErrForm)
	for n := range 5 {
		refuses(t, with(2, append([]any{"/f", false, true, 1, 1}, []any{1, 2, 3, 4, 5}[:n]...)...)+"\x80\x00"+long, api.ErrForm) // a number of a piece
	}
	for n := range 4 {
		refuses(t, with(1, []any{1, 2, 3, 4}[:n]...)+"\x80\x00"+long, api.ErrForm) // the number of Seens, and what one has
	}
}

// P8.2: numbers of things below 0, or above the number of bytes.
func TestDecodeOfWrongNumbers(t *testing.T) {
	long := strings.Repeat("\x00", 100)
	for _, ahead := range [][]any{{}, {1, "/", true, 0}, {2, "/", true, 0, "/f", false, true, 1}} {
		for _, n := range []int{-1, math.MinInt, math.MaxInt, 300} {
			refuses(t, forms(append(ahead, n)...)+long, api.ErrForm)
			refuses(t, forms(append(ahead, n)...), api.ErrForm) // ahead of what is missing behind it
		}
		most := len(forms(append(ahead, 100)...)) + len(long) // a number from 64 on has two bytes
		refuses(t, forms(append(ahead, most+1)...)+long, api.ErrForm)
		refuses(t, forms(append(ahead, most)...)+long, api.ErrShort) // just as many as bytes are as yet no fault
	}
}

// P8.2: a Sum below 0 or above 2^32 - 1.
func TestDecodeOfWrongSums(t *testing.T) {
	sum := func(n int, parts ...any) string {
		return with(2, append([]any{"/f", false, true, 1, 1, 1, 2, 3, 4, n}, parts...)...)
	}
	for _, n := range []int{-1, math.MinInt, 1 << 32, math.MaxInt} {
		refuses(t, sum(n, 0), api.ErrForm)
		refuses(t, sum(n), api.ErrForm) // ahead of what is missing behind it
	}
	for _, n := range []int{0, 1, 1<<31 - 1, 1 << 31, 1<<32 - 1} {
		refuses(t, sum(n), api.ErrShort)
		wantBack(t, sum(n, 0), []tree.Entry{{Path: "/", Dir: true}, {Path: "/f", Open: true, Holder: 1, Pieces: []api.Piece{{Block: api.Block{Client: 1, Call: 2, Try: 3}, Size: 4, Sum: uint32(n)}}}}, nil)
	}
	refuses(t, with(2, "/f", false, true, 1, 2, 1, 2, 3, 4, 5, 1, 2, 3, 4, 1<<32, 0), api.ErrForm) // of a further piece
}

// P8.2: the order: forms and numbers by their bytes, then ErrTail, then Build, then the Seens.
func TestDecodeOrder(t *testing.T) {
	refuses(t, with(2, "no path", true, 0, 0), api.ErrPath)
	refuses(t, with(2, "no path", true, 0, 0)+"x", api.ErrTail)
	refuses(t, with(2, "no path", true, 0, 2, 2, 0, 0, 1, 0, 0), api.ErrPath) // ahead of Seens that don't rise
	refuses(t, with(2, "no path", true, 0, 2, 2, 0, 0), api.ErrShort)
	refuses(t, with(2, "/a/b", true, 0, 0), api.ErrNoEnt)
	refuses(t, with(3, "/a", false, true, 1, 0, "/a/b", true, 0, 0), api.ErrNotDir)
	refuses(t, with(3, "/b", true, 0, "/a", true, 0, 0), api.ErrForm)
	refuses(t, with(3, "/b", true, 0, "/a", true, 0, 0)+"x", api.ErrTail)
	refuses(t, with(3, "/a/b", true, 0, "/c", true, 0, -1), api.ErrForm) // of which the number stands ahead of Build
	refuses(t, with(2, "/a", true, -1, 0), api.ErrForm)
	refuses(t, with(2, "/a", true, -1, 0)+"x", api.ErrTail)
	refuses(t, with(2, "/f", false, false, 1, 0, 0), api.ErrForm) // closed, and held
	refuses(t, with(2, "/f", false, true, 1, 1, 1, 2, 3, 0, 5, 0), api.ErrForm)
	refuses(t, with(2, "/f", false, true, 1, 1, 1, 2, 3, 4097, 5, 0), api.ErrForm)
	refuses(t, with(2, "/f", false, true, 1, 1, 1, 2, 3, 0, -5, 0)+"x", api.ErrForm)
	refuses(t, "\x00\x00", api.ErrForm) // no entries
	refuses(t, "\x00\x00\x00", api.ErrTail)
	refuses(t, forms(0, 2, 1, 0, 0, 2, 0, 0), api.ErrForm)
	refuses(t, forms(1, "/", false, true, 0, 0, 0), api.ErrForm) // the root as a file
}

// P8.2: Clients that don't rise.
func TestDecodeOfSeens(t *testing.T) {
	for _, clients := range [][]int{{1, 1}, {2, 1}, {1, 2, 2}, {1, 3, 2}, {-1, -2}, {0, math.MinInt}, {1, 2, 3, 4, 3}} {
		parts := []any{len(clients)}
		for _, c := range clients {
			parts = append(parts, c, 0, 0)
		}
		refuses(t, with(1, parts...), api.ErrForm)
		refuses(t, with(1, parts...)+"x", api.ErrTail)
	}
	wantBack(t, with(1, 3, -2, 5, 0, -1, 5, 0, 9, 5, 0), []tree.Entry{{Path: "/", Dir: true}}, []image.Seen{{-2, 5, 0}, {-1, 5, 0}, {9, 5, 0}})
}

// manyFiles is a tree of some files in some directories.
func manyFiles(t *testing.T, r *rand.Rand) *tree.Tree {
	t.Helper()
	tr := tree.New()
	for range 60 {
		path := ""
		for range 1 + r.Intn(4) {
			path += "/" + strconv.Itoa(r.Intn(4))
		}
		client := r.Intn(3) - 1
		tr.Apply(tree.Op{Kind: 1 + r.Intn(2), Path: path, Client: client})
		tr.Apply(tree.Op{Kind: tree.Limit, Path: path, Quota: r.Intn(1 << r.Intn(20))})
		for range r.Intn(4) {
			piece := api.Piece{Block: api.Block{Client: r.Intn(9), Call: r.Int(), Try: -r.Intn(99)}, Size: 1 + r.Intn(api.MaxBlock), Sum: r.Uint32()}
			tr.Apply(tree.Op{Kind: tree.Add, Path: path, Client: client, Piece: piece})
		}
		if r.Intn(2) == 0 {
			tr.Apply(tree.Op{Kind: tree.Expire, Path: path})
		}
	}
	return tr
}

// P8.3: any trees, there and back.
func TestAnyTrees(t *testing.T) {
	r := rand.New(rand.NewSource(1))
	for range 200 {
		tr := manyFiles(t, r)
		var seen []image.Seen
		for client := range r.Intn(5) {
			seen = append(seen, image.Seen{Client: 100*client - r.Intn(100), Call: r.Int(), Code: api.Errno(r.Intn(300) - 20)})
		}
		wantBack(t, image.Encode(tr, seen), tr.Entries(), seen)
	}
}

// P8.2, P8.3: of any bytes that Decode takes Encode makes the same ones; of the others it answers an error alone.
func TestAnyBytes(t *testing.T) {
	r := rand.New(rand.NewSource(1))
	taken := 0
	for range 30000 {
		s := []byte(image.Encode(manyOrFew(t, r), []image.Seen{{1, 2, 3}, {4, 5, 6}}))
		for range 1 + r.Intn(2) {
			switch i := r.Intn(len(s)); r.Intn(3) {
			case 0:
				s[i] ^= 1 << r.Intn(8)
			case 1:
				s = slices.Delete(s, i, i+1)
			default:
				s = slices.Insert(s, i, byte(r.Intn(256)))
			}
		}
		tr, seen, e := image.Decode(string(s))
		switch {
		case e != api.OK && (tr != nil || len(seen) != 0):
			t.Fatalf("Decode(%x): %v, %v, %d", s, tr, seen, e)
		case e == api.OK:
			taken++
			if again := image.Encode(tr, seen); again != string(s) {
				t.Fatalf("Decode and Encode of %x: %x", s, again)
			}
		}
	}
	if taken < 1000 {
		t.Errorf("only %d were taken", taken)
	}
}

func manyOrFew(t *testing.T, r *rand.Rand) *tree.Tree {
	t.Helper()
	if r.Intn(300) == 0 {
		return manyFiles(t, r)
	}
	return built(t, tree.Entry{Path: "/a", Dir: true, Quota: 3}, tree.Entry{Path: "/a/f", Open: true, Holder: 3, Pieces: []api.Piece{{Size: 1 + r.Intn(api.MaxBlock), Sum: r.Uint32()}}})
}

// P1, P8.2: however much is told and isn't there, it ends soon.
func TestDecodeOfMuch(t *testing.T) {
	much := strings.Repeat("\x00", 1<<22)
	refuses(t, forms(1<<22)+much, api.ErrShort) // entries without anything: the forms of each are taken
	refuses(t, forms(1<<22)+strings.Repeat("\xff", 1<<22), api.ErrForm)
	refuses(t, with(1, 1<<22)+much, api.ErrShort)
	refuses(t, forms(1, strings.Repeat("n", api.MaxText), true, 0, 0), api.ErrForm) // a path that is none
	refuses(t, with(2, strings.Repeat("n", api.MaxText), true, 0, 0), api.ErrPath)
}

// What is handed in stays, and what is answered is new.
func TestMemory(t *testing.T) {
	seen := []image.Seen{{3, 1, 0}, {1, 2, 0}, {1, 3, 0}, {9, 9, 9}}
	s := image.Encode(some(t), seen[:3])
	if !slices.Equal(seen, []image.Seen{{3, 1, 0}, {1, 2, 0}, {1, 3, 0}, {9, 9, 9}}) {
		t.Errorf("the list is %v now", seen)
	}
	one, oneSeen, _ := image.Decode(s)
	two, twoSeen, _ := image.Decode(s)
	one.Apply(tree.Op{Kind: tree.Delete, Path: "/a"})
	oneSeen[0] = image.Seen{}
	if image.Encode(two, twoSeen) != s {
		t.Error("two answers share memory")
	}
}
