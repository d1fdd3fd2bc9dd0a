package journal_test

import (
	"slices"
	"strings"
	"testing"

	"mahout/api"
	"mahout/disk"
	"mahout/journal"
	"mahout/wire"
)

// roomy is a capacity that no test fills.
const roomy = 1 << 26

func want(t *testing.T, what string, got, errno api.Errno) {
	t.Helper()
	if got != errno {
		t.Errorf("%s: %d, not %d", what, got, errno)
	}
}

// filled is a disk on which these files last (a name, its bytes, a name ..).
func filled(t *testing.T, capacity int, files ...string) *disk.Disk {
	t.Helper()
	d := disk.New(capacity)
	for i := 0; i < len(files); i += 2 {
		want(t, "Append", d.Append(files[i], files[i+1]), api.OK)
	}
	d.Sync()
	return d
}

// wantFiles: does the disk hold just these files?
func wantFiles(t *testing.T, what string, d *disk.Disk, files ...string) {
	t.Helper()
	var names []string
	for i := 0; i < len(files); i += 2 {
		names = append(names, files[i])
		if got, e := d.Read(files[i]); got != files[i+1] || e != api.OK {
			t.Errorf("%s: %s holds %.100x, %d, not %.100x", what, files[i], got, e, files[i+1])
		}
	}
	slices.Sort(names)
	if got := d.List(); !slices.Equal(got, names) {
		t.Errorf("%s: %q, not %q", what, got, names)
	}
}

// wantLasting: do just these files last, and does the disk hold no others?
func wantLasting(t *testing.T, what string, d *disk.Disk, files ...string) {
	t.Helper()
	wantFiles(t, what, d, files...)
	wantPending(t, what, d, 0)
	d.Crash(0, 0)
	wantFiles(t, what+", and a crash", d, files...)
}

func wantPending(t *testing.T, what string, d *disk.Disk, n int) {
	t.Helper()
	if d.Pending() != n {
		t.Errorf("%s: %d changes, not %d", what, d.Pending(), n)
	}
}

func wantCount(t *testing.T, what string, j *journal.Journal, count, lasting int) {
	t.Helper()
	if a, b := j.Count(); a != count || b != lasting {
		t.Errorf("%s: Count is %d and %d, not %d and %d", what, a, b, count, lasting)
	}
}

// opened is the journal of a disk that can be opened, on which just these records are found.
func opened(t *testing.T, what string, d *disk.Disk, image string, records ...string) *journal.Journal {
	t.Helper()
	j, found, e := journal.Open(d)
	if j == nil || e != api.OK {
		t.Fatalf("%s: Open: %v, %d", what, j, e)
	}
	if found.Image != image || !slices.Equal(found.Records, records) {
		t.Errorf("%s: found %.100q, %.100q, not %.100q, %.100q", what, found.Image, found.Records, image, records)
	}
	wantCount(t, what, j, len(records), len(records))
	wantPending(t, what, d, 0)
	return j
}

// refused: Open answers the error, and nothing else.
func refused(t *testing.T, what string, d *disk.Disk, errno api.Errno) {
	t.Helper()
	if j, found, e := journal.Open(d); j != nil || found.Image != "" || len(found.Records) != 0 || e != errno {
		t.Errorf("%s: Open: %v, %v, %d, not %d", what, j, found, e, errno)
	}
}

// frames of these bodies, one behind the other.
func frames(bodies ...string) string {
	all := ""
	for _, body := range bodies {
		all += wire.Frame(body)
	}
	return all
}

// turned is s with a bit turned.
func turned(s string, bit int) string {
	bytes := []byte(s)
	bytes[bit/8] ^= 1 << (bit % 8)
	return string(bytes)
}

// The chapter's example.
func TestExample(t *testing.T) {
	d := disk.New(100)
	j := opened(t, "an empty disk", d, "")
	want(t, "Append", j.Append("a"), api.OK)
	j.Sync()
	want(t, "Append", j.Append("b"), api.OK)
	d.Crash(0, 3)
	wantFiles(t, "behind the crash", d, "edits-0-0", frames("a")+frames("b")[:3])
	opened(t, "behind the crash", d, "", "a")
	wantLasting(t, "behind Open", d, "edits-0-1", frames("a"))
}

// P10.1
func TestOpenOfNothing(t *testing.T) {
	refused(t, "no disk", nil, api.ErrArg)
	for _, capacity := range []int{-1, 0, 100} {
		d := disk.New(capacity)
		opened(t, "an empty disk", d, "")
		wantLasting(t, "an empty disk", d)
	}
}

// P10.1: an image, records, and both; Open again finds the same.
func TestOpen(t *testing.T) {
	for _, c := range []struct {
		files   []string
		image   string
		records []string
	}{
		{[]string{"edits-0-0", frames("a", "", "b\x00")}, "", []string{"a", "", "b\x00"}},
		{[]string{"edits-0-0", ""}, "", nil},
		{[]string{"image-0", frames("i")}, "i", nil},
		{[]string{"image-7", frames("")}, "", nil},
		{[]string{"image-7", frames("seven"), "edits-7-0", frames("a")}, "seven", []string{"a"}},
		{[]string{"image-7", frames("seven"), "edits-7-12", frames("a", "a")}, "seven", []string{"a", "a"}},
		{[]string{"edits-0-5", frames("x")}, "", []string{"x"}},
		{[]string{"edits-0-0", frames(strings.Repeat("m", api.MaxFrame), "x")}, "", []string{strings.Repeat("m", api.MaxFrame), "x"}},
		{[]string{"image-1", frames(strings.Repeat("m", api.MaxFrame))}, strings.Repeat("m", api.MaxFrame), nil},
		{[]string{"image-999999999", frames("i"), "edits-999999999-999999999", frames("a")}, "i", []string{"a"}},
	} {
		d := filled(t, roomy, c.files...)
		for range 3 {
			opened(t, c.files[0], d, c.image, c.records...)
			wantLasting(t, c.files[0], d, c.files...)
		}
	}
}

// P10.1: the segment is the greatest that has an image, the copy the greatest of that segment, by their numbers; what else is a journal's goes.
func TestOpenChooses(t *testing.T) {
	a, b, c := frames("a"), frames("b"), frames("c")
	i, k := frames("i"), frames("k")
	for _, x := range []struct {
		files, left []string
		image       string
		records     []string
	}{
		{[]string{"image-9", i, "image-10", k}, []string{"image-10", k}, "k", nil},
		{[]string{"edits-0-9", a, "edits-0-10", b}, []string{"edits-0-10", b}, "", []string{"b"}},
		{[]string{"edits-0-0", a, "edits-0-1", b, "edits-0-2", c}, []string{"edits-0-2", c}, "", []string{"c"}},
		{[]string{"edits-0-0", a, "edits-1-0", b}, []string{"edits-0-0", a}, "", []string{"a"}}, // no image of segment 1
		{[]string{"edits-5-0", a}, nil, "", nil},
		{[]string{"image-1", i, "edits-0-0", a}, []string{"image-1", i}, "i", nil},
		{[]string{"image-1", i, "edits-0-0", a, "edits-1-0", b, "edits-2-0", c}, []string{"image-1", i, "edits-1-0", b}, "i", []string{"b"}},
		{[]string{"image-1", i, "edits-0-7", a, "edits-1-2", b, "edits-2-9", c}, []string{"image-1", i, "edits-1-2", b}, "i", []string{"b"}},
		{[]string{"image-0", i, "image-1", k, "edits-0-3", a}, []string{"image-1", k}, "k", nil},
		{[]string{"image-2", "changed", "image-3", k}, []string{"image-3", k}, "k", nil},                 // only the newest one is looked at
		{[]string{"edits-0-0", "changed!", "edits-0-1", b}, []string{"edits-0-1", b}, "", []string{"b"}}, // likewise
		{[]string{"tmp", i, "edits-0-0", a}, []string{"edits-0-0", a}, "", []string{"a"}},
		{[]string{"tmp", ""}, nil, "", nil},
		{[]string{"edits-12-3", a, "edits-1-23", b, "image-12", i}, []string{"image-12", i, "edits-12-3", a}, "i", []string{"a"}},
	} {
		d := filled(t, roomy, x.files...)
		opened(t, x.files[0], d, x.image, x.records...)
		wantLasting(t, x.files[0], d, x.left...)
	}
}

// others are the names of files that are no journal's.
func others() []string {
	return []string{
		"image", "image-", "image--1", "image-+1", "image-00", "image-01", "image-1x", "image- 1", "image-1-0", "image-1000000000", "image-0x1", "image-1_0", "image-1.", "Image-1", "image_1", "ximage-1", "image-\xd9\xa1",
		"edits", "edits-", "edits-0", "edits-0-", "edits--0", "edits-0-0-0", "edits-00-0", "edits-0-00", "edits-0-01", "edits-01-0", "edits-+0-0", "edits-0-+1", "edits--1-0", "edits-0--1", "edits-0-1000000000", "edits-1000000000-0", "edits-0-0x", "edits-0_0", "Edits-0-0", "xedits-0-0", "edits-0-9999999999999999999999", "edits-99999999999999999999-0", "edits-0-1_0",
		"tmp2", "Tmp", "xtmp", "tm", "t", "-", "0", "blk-1-2-0", "\x00", strings.Repeat("9", api.MaxName),
	}
}

// P10.1: other files are left alone, by Open and by Roll, and count for nothing.
func TestOtherFiles(t *testing.T) {
	var files []string
	for _, name := range others() {
		files = append(files, name, "of "+name)
	}
	d := filled(t, roomy, files...)
	j := opened(t, "other files alone", d, "")
	wantLasting(t, "other files alone", d, files...)
	want(t, "Append", j.Append("a"), api.OK)
	j.Sync()
	d.Append("edits-0-0", "torn")
	j = opened(t, "other files, and a torn end", d, "", "a")
	wantLasting(t, "other files, and a torn end", d, append(files, "edits-0-1", frames("a"))...)
	want(t, "Roll", j.Roll("i"), api.OK)
	wantLasting(t, "Roll", d, append(files, "image-1", frames("i"))...)
	opened(t, "Roll", d, "i")
	wantLasting(t, "Open behind Roll", d, append(files, "image-1", frames("i"))...)
}

// unchanged: Open refuses a disk as corrupt, and changes nothing of it: neither what was done since a sync nor what was left over.
func unchanged(t *testing.T, what string, files ...string) {
	t.Helper()
	d := filled(t, roomy, files...)
	refused(t, what, d, api.ErrCorrupt)
	wantFiles(t, what, d, files...)
	wantPending(t, what, d, 0)
	want(t, "Append", d.Append("tmp", "left over"), api.OK)
	want(t, "Append", d.Append("edits-77-7", "left over"), api.OK)
	refused(t, what, d, api.ErrCorrupt)
	wantFiles(t, what, d, append(files, "tmp", "left over", "edits-77-7", "left over")...)
	wantPending(t, what, d, 2)
}

// P10.1: an image that isn't just one frame.
func TestOpenOfABadImage(t *testing.T) {
	image := frames("the image")
	for n := range len(image) {
		unchanged(t, "a torn image", "image-3", image[:n])
		unchanged(t, "a torn image and records", "image-3", image[:n], "edits-3-0", frames("a"), "image-2", image)
	}
	for bit := range 8 * len(image) {
		unchanged(t, "a changed image", "image-3", turned(image, bit))
	}
	unchanged(t, "two frames", "image-3", frames("the image", "another"))
	unchanged(t, "two equal frames", "image-3", image+image)
	unchanged(t, "an empty one ahead", "image-3", frames("", "the image"))
	for n := 1; n < len(image); n++ {
		unchanged(t, "a frame and some of another", "image-3", image+image[:n])
	}
	unchanged(t, "a frame and a changed one", "image-3", image+turned(image, 70))
	unchanged(t, "an image of segment 0", "image-0", "x")
	unchanged(t, "an older image that is whole", "image-2", image, "image-3", "")
	unchanged(t, "records with a torn end", "image-3", "x", "edits-3-0", frames("a")+"torn")
	unchanged(t, "records that were changed", "image-3", "x", "edits-3-0", turned(frames("a"), 3))
}

// P10.1: records that were changed, anywhere, the last ones too.
func TestOpenOfChangedRecords(t *testing.T) {
	edits := frames("first", "", "third")
	for bit := range 8 * len(edits) {
		unchanged(t, "a bit turned", "edits-0-0", turned(edits, bit))
		unchanged(t, "a bit turned, and a torn end", "edits-0-0", turned(edits, bit)+frames("torn")[:10])
	}
	unchanged(t, "a copy", "image-2", frames("i"), "edits-2-7", turned(edits, 90), "edits-2-6", edits)
	unchanged(t, "something else", "edits-0-0", strings.Repeat("x", 8))
}

// P10.1: bits that turn on the disk are found where a record was synced.
func TestOpenBehindFlips(t *testing.T) {
	for bit := range 8 * len(frames("a", "bc")) {
		d := disk.New(roomy)
		j := opened(t, "an empty disk", d, "")
		want(t, "Append", j.Append("a"), api.OK)
		want(t, "Append", j.Append("bc"), api.OK)
		j.Sync()
		want(t, "Flip", d.Flip("edits-0-0", bit), api.OK)
		refused(t, "a bit turned", d, api.ErrCorrupt)
		want(t, "Flip", d.Flip("edits-0-0", bit), api.OK)
		opened(t, "turned back", d, "", "a", "bc")
	}
}

// P10.1: a torn end is cut, and the good beginning has a file of its own.
func TestOpenOfATornEnd(t *testing.T) {
	edits := frames("first", "", "third")
	ends := []int{len(frames("first")), len(frames("first", "")), len(edits)}
	all := []string{"first", "", "third"}
	image := frames("i")
	for n := range len(edits) + 1 {
		whole := 0
		for _, end := range ends {
			if end <= n {
				whole++
			}
		}
		good := frames(all[:whole]...)
		if good == edits[:n] { // nothing is torn
			continue
		}
		d := filled(t, roomy, "edits-0-0", edits[:n])
		opened(t, "a torn end", d, "", all[:whole]...)
		wantLasting(t, "a torn end", d, "edits-0-1", good)
		opened(t, "Open again", d, "", all[:whole]...)
		wantLasting(t, "Open again", d, "edits-0-1", good)

		d = filled(t, roomy, "image-4", image, "edits-4-9", edits[:n], "edits-4-8", edits, "edits-3-0", edits, "image-3", "x", "tmp", "left over")
		j := opened(t, "a torn end of a copy", d, "i", all[:whole]...)
		wantLasting(t, "a torn end of a copy", d, "image-4", image, "edits-4-10", good)
		want(t, "Append", j.Append("more"), api.OK)
		j.Sync()
		opened(t, "more behind it", d, "i", append(slices.Clone(all[:whole]), "more")...)
		wantLasting(t, "more behind it", d, "image-4", image, "edits-4-10", good+frames("more"))
	}
}

// P10.1: where the good beginning has no room, only what tmp held is gone.
func TestOpenOfATornEndWithoutRoom(t *testing.T) {
	good, torn := frames("first", "second"), frames("third")[:10]
	image := frames("i")
	files := []string{"image-4", image, "edits-4-1", good + torn, "edits-4-0", frames("older"), "image-2", image, "other", "xyz"}
	used := 0
	for i := 1; i < len(files); i += 2 {
		used += len(files[i])
	}
	for short := 1; short <= len(good); short++ {
		d := filled(t, used+len(good)-short, files...)
		for range 2 {
			refused(t, "no room", d, api.ErrFull)
			wantLasting(t, "no room", d, files...)
		}
		if short > len(good)-len("abc") {
			continue
		}
		want(t, "Append", d.Append("tmp", "abc"), api.OK)
		d.Sync()
		want(t, "Append", d.Append("other", ""), api.OK) // what was done ahead lasts too
		refused(t, "no room, and a tmp", d, api.ErrFull)
		wantLasting(t, "no room, and a tmp", d, files...)
	}
	d := filled(t, used+len(good), files...)
	opened(t, "just room", d, "i", "first", "second")
	wantLasting(t, "just room", d, "image-4", image, "edits-4-2", good, "other", "xyz")

	// What tmp held makes room.
	d = filled(t, used+len(good), append(files, "tmp", "left over")...)
	opened(t, "a tmp", d, "i", "first", "second")
	wantLasting(t, "a tmp", d, "image-4", image, "edits-4-2", good, "other", "xyz")
}

// P10.1: a full disk is opened where nothing is torn, or nothing is whole.
func TestOpenOfAFullDisk(t *testing.T) {
	edits := frames("a")
	d := filled(t, len(edits)+3, "edits-0-0", edits, "tmp", "xyz")
	opened(t, "a full disk", d, "", "a")
	wantLasting(t, "a full disk", d, "edits-0-0", edits)
	d = filled(t, 5, "edits-0-0", edits[:5])
	opened(t, "nothing is whole", d, "")
	wantLasting(t, "nothing is whole", d, "edits-0-1", "")
}

// P10.1: what the disk holds counts, and lasts from then on.
func TestOpenOfChangesThatDoNotLast(t *testing.T) {
	d := filled(t, roomy, "edits-0-0", frames("a"), "image-1", frames("old"), "tmp", frames("i"))
	want(t, "Rename", d.Rename("tmp", "image-2"), api.OK)
	want(t, "Append", d.Append("edits-2-0", frames("b")), api.OK)
	opened(t, "changes", d, "i", "b")
	wantLasting(t, "changes", d, "image-2", frames("i"), "edits-2-0", frames("b"))
	want(t, "Append", d.Append("edits-2-0", frames("c")), api.OK)
	opened(t, "nothing to delete", d, "i", "b", "c")
	wantLasting(t, "nothing to delete", d, "image-2", frames("i"), "edits-2-0", frames("b", "c"))
}

// P10.2
func TestAppend(t *testing.T) {
	d := disk.New(roomy)
	j := opened(t, "an empty disk", d, "")
	all := []string{"a", "", "\x00\xff", strings.Repeat("m", api.MaxFrame), "a"}
	for i, record := range all {
		want(t, "Append", j.Append(record), api.OK)
		wantFiles(t, "Append", d, "edits-0-0", frames(all[:i+1]...))
		wantCount(t, "Append", j, i+1, 0)
		wantPending(t, "Append", d, i+1)
	}
	j.Sync()
	wantCount(t, "Sync", j, 5, 5)
	wantLasting(t, "Sync", d, "edits-0-0", frames(all...))
	opened(t, "Sync", d, "", all...)
}

// P10.2: behind what Open found, in the segment and the copy that it found.
func TestAppendBehindWhatWasFound(t *testing.T) {
	image := frames("i")
	d := filled(t, roomy, "image-6", image, "edits-6-3", frames("a", "b"))
	j := opened(t, "Open", d, "i", "a", "b")
	want(t, "Append", j.Append("c"), api.OK)
	wantCount(t, "Append", j, 3, 2)
	wantFiles(t, "Append", d, "image-6", image, "edits-6-3", frames("a", "b", "c"))
	j.Sync()
	wantCount(t, "Sync", j, 3, 3)
	want(t, "Append", j.Append("d"), api.OK)
	want(t, "Append", j.Append("e"), api.OK)
	wantCount(t, "Append", j, 5, 3)
	wantCount(t, "Count again", j, 5, 3)
}

// P10.2: a record that is too long, and a disk without room for its frame: nothing has changed.
func TestAppendThatCannotBe(t *testing.T) {
	long := strings.Repeat("m", api.MaxFrame+1)
	d := disk.New(len(frames("a", "bc")))
	j := opened(t, "an empty disk", d, "")
	want(t, "too long", j.Append(long), api.ErrLong)
	wantFiles(t, "too long", d)
	want(t, "Append", j.Append("a"), api.OK)
	want(t, "no room", j.Append("bcd"), api.ErrFull)
	want(t, "too long, and no room", j.Append(long), api.ErrLong)
	want(t, "no room", j.Append(strings.Repeat("m", api.MaxFrame)), api.ErrFull)
	wantFiles(t, "no room", d, "edits-0-0", frames("a"))
	wantPending(t, "no room", d, 1)
	wantCount(t, "no room", j, 1, 0)
	want(t, "just room", j.Append("bc"), api.OK)
	want(t, "no room", j.Append(""), api.ErrFull)
	wantFiles(t, "just room", d, "edits-0-0", frames("a", "bc"))
	wantCount(t, "just room", j, 2, 0)
	d = disk.New(roomy)
	j = opened(t, "an empty disk", d, "")
	want(t, "too long", j.Append(long), api.ErrLong)
	want(t, "too long", j.Append(long+long), api.ErrLong)
	wantPending(t, "too long", d, 0)
	wantCount(t, "too long", j, 0, 0)
}

// P10.2: Sync syncs the whole disk, where there are no records too.
func TestSync(t *testing.T) {
	d := disk.New(roomy)
	j := opened(t, "an empty disk", d, "")
	j.Sync()
	want(t, "Append", d.Append("other", "x"), api.OK)
	j.Sync()
	wantCount(t, "Sync", j, 0, 0)
	wantLasting(t, "Sync", d, "other", "x")
}

// P10.3
func TestRoll(t *testing.T) {
	d := disk.New(roomy)
	j := opened(t, "an empty disk", d, "")
	for i, name := range []string{"image-1", "image-2", "image-3", "image-4"} {
		edits := []string{"edits-0-0", "edits-1-0", "edits-2-0", "edits-3-0"}[i]
		var before []string
		if i > 0 {
			before = []string{[]string{"image-1", "image-2", "image-3"}[i-1], frames(name[:i])}
		}
		if i != 2 { // once without records
			want(t, "Append", j.Append("a"), api.OK)
			j.Sync()
			want(t, "Append", j.Append("b"), api.OK)
			wantFiles(t, "Append", d, append(before, edits, frames("a", "b"))...)
			wantCount(t, "Append", j, 2, 1)
		}
		image := name[:i+1]
		want(t, "Roll", j.Roll(image), api.OK)
		wantCount(t, "Roll", j, 0, 0)
		wantLasting(t, "Roll", d, name, frames(image))
		if i%2 == 1 {
			j = opened(t, "Roll", d, image)
		}
	}
	want(t, "Append", j.Append("c"), api.OK)
	wantCount(t, "Append", j, 1, 0)
	wantFiles(t, "Append", d, "image-4", frames("imag"), "edits-4-0", frames("c"))
}

// P10.3: the copy that stood there goes, and the next one is copy 0.
func TestRollOfACopy(t *testing.T) {
	d := filled(t, roomy, "image-6", frames("i"), "edits-6-3", frames("a", "b")+"torn")
	j := opened(t, "Open", d, "i", "a", "b")
	want(t, "Roll", j.Roll("k"), api.OK)
	wantLasting(t, "Roll", d, "image-7", frames("k"))
	want(t, "Append", j.Append("c"), api.OK)
	wantFiles(t, "Append", d, "image-7", frames("k"), "edits-7-0", frames("c"))
	wantCount(t, "Append", j, 1, 0)
	j.Sync()
	wantCount(t, "Sync", j, 1, 1)
	opened(t, "Open again", d, "k", "c")
}

// P10.3
func TestRollOfTheLongestImage(t *testing.T) {
	for _, image := range []string{"", strings.Repeat("m", api.MaxFrame)} {
		d := disk.New(roomy)
		j := opened(t, "an empty disk", d, "")
		want(t, "Append", j.Append("a"), api.OK)
		want(t, "Roll", j.Roll(image), api.OK)
		wantLasting(t, "Roll", d, "image-1", frames(image))
		opened(t, "Roll", d, image)
	}
}

// P10.3: an image that is too long, and a disk without room for it beside what is there: nothing has changed.
func TestRollThatCannotBe(t *testing.T) {
	long := strings.Repeat("m", api.MaxFrame+1)
	old, records := frames("old"), frames("a", "b")
	room := len(frames("new"))
	for _, left := range []int{0, 1, room - 1, room} {
		d := filled(t, len(old+records)+left, "image-1", old, "edits-1-0", frames("a"))
		j := opened(t, "Open", d, "old", "a")
		want(t, "Append", j.Append("b"), api.OK)
		for range 2 {
			want(t, "too long", j.Roll(long), api.ErrLong)
			want(t, "no room", j.Roll("new!"), api.ErrFull)
			wantFiles(t, "no room", d, "image-1", old, "edits-1-0", records)
			wantPending(t, "no room", d, 1)
			wantCount(t, "no room", j, 2, 1)
		}
		if left < room {
			want(t, "no room", j.Roll("new"), api.ErrFull)
			j.Sync()
			wantCount(t, "Sync", j, 2, 2)
			wantLasting(t, "no room", d, "image-1", old, "edits-1-0", records)
			continue
		}
		want(t, "just room", j.Roll("new"), api.OK)
		wantLasting(t, "just room", d, "image-2", frames("new"))
		wantCount(t, "just room", j, 0, 0)
	}
}

// P10.4, P1
func TestNilJournal(t *testing.T) {
	var j *journal.Journal
	for _, s := range []string{"", "a", strings.Repeat("m", api.MaxFrame+1)} {
		want(t, "Append", j.Append(s), api.ErrArg)
		want(t, "Roll", j.Roll(s), api.ErrArg)
	}
	j.Sync()
	wantCount(t, "a nil journal", j, 0, 0)
}

// What is found is new, and two journals have nothing to do with one another.
func TestMemory(t *testing.T) {
	d := filled(t, roomy, "edits-0-0", frames("a", "b"))
	_, one, _ := journal.Open(d)
	j, two, _ := journal.Open(d)
	one.Records[0] = "z"
	if two.Records[0] != "a" {
		t.Error("two answers share memory")
	}
	other := opened(t, "another disk", disk.New(roomy), "")
	want(t, "Append", j.Append("c"), api.OK)
	wantCount(t, "the other journal", other, 0, 0)
	wantCount(t, "the journal", j, 3, 2)
	if !slices.Equal(two.Records, []string{"a", "b"}) {
		t.Errorf("found is %q now", two.Records)
	}
}

// P10.2: many records don't cost more, each, than few.
func TestManyRecords(t *testing.T) {
	const many = 50000
	d := disk.New(roomy)
	j := opened(t, "an empty disk", d, "")
	for i := range many {
		want(t, "Append", j.Append("x"), api.OK)
		j.Sync()
		wantCount(t, "Sync", j, i+1, i+1)
	}
	opened(t, "many", d, "", slices.Repeat([]string{"x"}, many)...)
}
