package disk_test

import (
	"math"
	"math/rand"
	"slices"
	"strings"
	"testing"

	"mahout/api"
	"mahout/disk"
)

func want(t *testing.T, what string, got, errno api.Errno) {
	t.Helper()
	if got != errno {
		t.Errorf("%s: %d, not %d", what, got, errno)
	}
}

// wantFiles: does the disk hold just these files (a name, its bytes, a name ..)?
func wantFiles(t *testing.T, d *disk.Disk, files ...string) {
	t.Helper()
	var names []string
	used := 0
	for i := 0; i < len(files); i += 2 {
		names = append(names, files[i])
		used += len(files[i+1])
		if got, e := d.Read(files[i]); got != files[i+1] || e != api.OK {
			t.Errorf("Read(%q): %q, %d, not %q", files[i], got, e, files[i+1])
		}
	}
	slices.Sort(names)
	if got := d.List(); !slices.Equal(got, names) {
		t.Errorf("List: %q, not %q", got, names)
	}
	if d.Used() != used {
		t.Errorf("Used: %d, not %d", d.Used(), used)
	}
}

func wantPending(t *testing.T, d *disk.Disk, n int) {
	t.Helper()
	if d.Pending() != n {
		t.Errorf("Pending: %d, not %d", d.Pending(), n)
	}
}

// filled is a disk on which these files last.
func filled(t *testing.T, capacity int, files ...string) *disk.Disk {
	t.Helper()
	d := disk.New(capacity)
	for i := 0; i < len(files); i += 2 {
		want(t, "Append", d.Append(files[i], files[i+1]), api.OK)
	}
	d.Sync()
	return d
}

// P4.1
func TestNew(t *testing.T) {
	for _, capacity := range []int{0, -1, math.MinInt} {
		d := disk.New(capacity)
		wantFiles(t, d)
		wantPending(t, d, 0)
		want(t, "a byte on no room", d.Append("a", "x"), api.ErrFull)
		want(t, "no byte on no room", d.Append("a", ""), api.OK)
		wantFiles(t, d, "a", "")
	}
	d := disk.New(math.MaxInt)
	want(t, "Append", d.Append("a", "abc"), api.OK)
	wantFiles(t, d, "a", "abc")
}

// P4.1: Used counts what the disk holds, last or not.
func TestUsed(t *testing.T) {
	d := filled(t, 10, "a", "abc", "b", "de")
	want(t, "Append", d.Append("a", "f"), api.OK)
	wantFiles(t, d, "a", "abcf", "b", "de")
	want(t, "Delete", d.Delete("b"), api.OK)
	wantFiles(t, d, "a", "abcf")
	want(t, "Rename", d.Rename("a", "c"), api.OK)
	wantFiles(t, d, "c", "abcf")
	d.Crash(1, 0)
	wantFiles(t, d, "a", "abcf", "b", "de")
}

// P4.1
func TestDisksAreApart(t *testing.T) {
	one, two := disk.New(9), disk.New(9)
	want(t, "Append", one.Append("a", "one"), api.OK)
	want(t, "Append", two.Append("a", "two"), api.OK)
	one.Sync()
	want(t, "Flip", one.Flip("a", 0), api.OK)
	want(t, "Flip of what doesn't last", two.Flip("a", 0), api.ErrMissing)
	wantFiles(t, one, "a", "nne")
	wantFiles(t, two, "a", "two")
	wantPending(t, one, 0)
	wantPending(t, two, 1)
}

// names that are some, and that are none.
func names() []string {
	return []string{"a", "\x00", "a/b", "\xff\xfe", " ", "blk-1-2-0", strings.Repeat("n", api.MaxName)}
}

func noNames() []string {
	return []string{"", strings.Repeat("n", api.MaxName+1), strings.Repeat("n", 1000)}
}

// P4.2
func TestAppend(t *testing.T) {
	for _, name := range names() {
		d := disk.New(9)
		want(t, "Append", d.Append(name, "ab"), api.OK)
		wantPending(t, d, 1)
		want(t, "Append", d.Append(name, ""), api.OK)
		want(t, "Append", d.Append(name, "\x00\xff"), api.OK)
		wantPending(t, d, 3)
		wantFiles(t, d, name, "ab\x00\xff")
	}
	d := disk.New(9)
	want(t, "Append of nothing", d.Append("a", ""), api.OK)
	wantFiles(t, d, "a", "")
	wantPending(t, d, 1)
}

// P4.2
func TestAppendToNoName(t *testing.T) {
	d := filled(t, 3, "a", "abc")
	for _, name := range noNames() {
		want(t, "no name", d.Append(name, ""), api.ErrArg)
		want(t, "no name and no room", d.Append(name, "x"), api.ErrArg)
	}
	wantFiles(t, d, "a", "abc")
	wantPending(t, d, 0)
}

// P4.2
func TestAppendToAFullDisk(t *testing.T) {
	d := filled(t, 5, "a", "abc")
	want(t, "a byte too many", d.Append("a", "def"), api.ErrFull)
	want(t, "a byte too many in a file of its own", d.Append("b", "def"), api.ErrFull)
	wantFiles(t, d, "a", "abc")
	wantPending(t, d, 0)
	want(t, "just so many", d.Append("b", "de"), api.OK)
	want(t, "one more", d.Append("b", "f"), api.ErrFull)
	want(t, "none more", d.Append("b", ""), api.OK)
	wantFiles(t, d, "a", "abc", "b", "de")
	want(t, "Delete", d.Delete("a"), api.OK)
	want(t, "where something was", d.Append("c", "xyz"), api.OK)
	wantFiles(t, d, "b", "de", "c", "xyz")
	wantPending(t, d, 4)
	d.Crash(0, 0)
	want(t, "what was deleted is there again", d.Append("c", "xyz"), api.ErrFull)
	want(t, "just so many", d.Append("c", "xy"), api.OK)
}

// P4.3
func TestRename(t *testing.T) {
	for _, to := range append(names()[1:], "b") {
		d := filled(t, 9, "a", "abc")
		want(t, "Rename", d.Rename("a", to), api.OK)
		wantFiles(t, d, to, "abc")
		wantPending(t, d, 1)
		want(t, "of the old name", d.Rename("a", "c"), api.ErrMissing)
		want(t, "back", d.Rename(to, "a"), api.OK)
		wantFiles(t, d, "a", "abc")
	}
	d := disk.New(9)
	want(t, "Append", d.Append("a", "x"), api.OK)
	want(t, "Rename", d.Rename("a", "b"), api.OK)
	want(t, "a new file with the old name", d.Append("a", "y"), api.OK)
	want(t, "behind what was renamed", d.Append("b", "z"), api.OK)
	wantFiles(t, d, "a", "y", "b", "xz")
	d.Sync()
	wantFiles(t, d, "a", "y", "b", "xz")
}

// P4.3
func TestRenameThatCannotBe(t *testing.T) {
	d := filled(t, 9, "a", "abc", "b", "")
	for _, to := range noNames() {
		want(t, "to no name", d.Rename("a", to), api.ErrArg)
		want(t, "of nothing to no name", d.Rename("x", to), api.ErrArg)
	}
	want(t, "of nothing", d.Rename("x", "y"), api.ErrMissing)
	want(t, "of nothing to a file", d.Rename("x", "a"), api.ErrMissing)
	want(t, "of nothing to itself", d.Rename("x", "x"), api.ErrMissing)
	for _, from := range noNames() {
		want(t, "of no name", d.Rename(from, "c"), api.ErrMissing)
	}
	want(t, "to a file", d.Rename("a", "b"), api.ErrThere)
	want(t, "to itself", d.Rename("a", "a"), api.ErrThere)
	wantFiles(t, d, "a", "abc", "b", "")
	wantPending(t, d, 0)
}

// P4.3
func TestDelete(t *testing.T) {
	d := filled(t, 9, "a", "abc", "b", "")
	want(t, "Delete", d.Delete("a"), api.OK)
	wantFiles(t, d, "b", "")
	wantPending(t, d, 1)
	want(t, "a second time", d.Delete("a"), api.ErrMissing)
	want(t, "Delete", d.Delete("b"), api.OK)
	wantFiles(t, d)
	want(t, "made anew", d.Append("a", "x"), api.OK)
	wantFiles(t, d, "a", "x")
	wantPending(t, d, 3)
	d.Sync()
	wantFiles(t, d, "a", "x")
}

// P4.3
func TestDeleteOfNothing(t *testing.T) {
	d := filled(t, 9, "a", "abc")
	for _, name := range append(noNames(), "b", "aa", "a\x00") {
		want(t, "Delete of nothing", d.Delete(name), api.ErrMissing)
	}
	wantFiles(t, d, "a", "abc")
	wantPending(t, d, 0)
}

// P4.4
func TestReadOfNothing(t *testing.T) {
	d := filled(t, 9, "a", "abc")
	for _, name := range append(noNames(), "b", "aa") {
		if s, e := d.Read(name); s != "" || e != api.ErrMissing {
			t.Errorf("Read(%q): %q, %d", name, s, e)
		}
	}
	want(t, "Delete", d.Delete("a"), api.OK)
	if s, e := d.Read("a"); s != "" || e != api.ErrMissing {
		t.Errorf("Read of what was deleted: %q, %d", s, e)
	}
}

// P4.4: names rise byte by byte, and an answer is new memory.
func TestList(t *testing.T) {
	d := disk.New(9)
	for _, name := range []string{"b", "\xff", "a", "aa", "\x00", "Z", "a-10", "a-9", "\xc3\xa9"} {
		want(t, "Append", d.Append(name, ""), api.OK)
	}
	sorted := []string{"\x00", "Z", "a", "a-10", "a-9", "aa", "b", "\xc3\xa9", "\xff"}
	for range 3 {
		got := d.List()
		if !slices.Equal(got, sorted) {
			t.Fatalf("List: %q", got)
		}
		got[0], got[8] = "x", "y"
	}
}

// P4.4
func TestSync(t *testing.T) {
	d := disk.New(9)
	d.Sync()
	wantPending(t, d, 0)
	want(t, "Append", d.Append("a", "abc"), api.OK)
	want(t, "Append", d.Append("b", ""), api.OK)
	want(t, "Rename", d.Rename("a", "c"), api.OK)
	want(t, "Append", d.Append("c", "d"), api.OK)
	want(t, "Delete", d.Delete("b"), api.OK)
	wantPending(t, d, 5)
	d.Sync()
	wantPending(t, d, 0)
	wantFiles(t, d, "c", "abcd")
	want(t, "Append", d.Append("c", "lost"), api.OK)
	want(t, "Delete", d.Delete("c"), api.OK)
	d.Crash(0, 0)
	wantFiles(t, d, "c", "abcd")
}

// crash is what a disk with these changes holds behind a crash: a lasts with "abc" and b with "x"; then an append to a, a renaming of b to c, an append to c, a deletion of a, an append to a file that isn't there.
func crash(t *testing.T, keep, tear int) *disk.Disk {
	t.Helper()
	d := filled(t, 99, "a", "abc", "b", "x")
	want(t, "Append", d.Append("a", "def"), api.OK)
	want(t, "Rename", d.Rename("b", "c"), api.OK)
	want(t, "Append", d.Append("c", "yz"), api.OK)
	want(t, "Delete", d.Delete("a"), api.OK)
	want(t, "Append", d.Append("n", "new"), api.OK)
	d.Crash(keep, tear)
	wantPending(t, d, 0)
	return d
}

// P4.5
func TestCrashKeepsTheFirstChanges(t *testing.T) {
	for _, tear := range []int{0, -1, math.MinInt} {
		for _, keep := range []int{0, -1, math.MinInt} {
			wantFiles(t, crash(t, keep, tear), "a", "abc", "b", "x")
		}
		wantFiles(t, crash(t, 1, tear), "a", "abcdef", "b", "x")
		wantFiles(t, crash(t, 2, tear), "a", "abcdef", "c", "x")
		wantFiles(t, crash(t, 3, tear), "a", "abcdef", "c", "xyz")
		wantFiles(t, crash(t, 4, tear), "c", "xyz")
	}
	for _, tear := range []int{0, 1, -1, math.MaxInt, math.MinInt} {
		for _, keep := range []int{5, 6, math.MaxInt} {
			wantFiles(t, crash(t, keep, tear), "c", "xyz", "n", "new")
		}
	}
}

// P4.5
func TestCrashTearsTheNextAppend(t *testing.T) {
	for _, keep := range []int{0, -1, math.MinInt} {
		wantFiles(t, crash(t, keep, 1), "a", "abcd", "b", "x")
	}
	wantFiles(t, crash(t, 0, 2), "a", "abcde", "b", "x")
	for _, tear := range []int{3, 4, math.MaxInt} {
		wantFiles(t, crash(t, 0, tear), "a", "abcdef", "b", "x")
	}
	wantFiles(t, crash(t, 2, 1), "a", "abcdef", "c", "xy")
	wantFiles(t, crash(t, 4, 1), "c", "xyz", "n", "n")
	wantFiles(t, crash(t, 4, 99), "c", "xyz", "n", "new")
}

// P4.5
func TestCrashTearsNothingElse(t *testing.T) {
	for _, tear := range []int{1, 99, math.MaxInt} {
		wantFiles(t, crash(t, 1, tear), "a", "abcdef", "b", "x")
		wantFiles(t, crash(t, 3, tear), "a", "abcdef", "c", "xyz")
	}
}

// P4.5: an append of nothing makes the file, where it is torn too.
func TestCrashInAnAppendOfNothing(t *testing.T) {
	for tear := -1; tear <= 2; tear++ {
		d := disk.New(9)
		want(t, "Append", d.Append("a", ""), api.OK)
		d.Crash(0, tear)
		if tear > 0 {
			wantFiles(t, d, "a", "")
			want(t, "Flip in no byte", d.Flip("a", 0), api.ErrArg)
		} else {
			wantFiles(t, d)
		}
	}
}

// P4.5: a disk on which nothing was done yet goes on as before.
func TestCrashOfAnEmptyDisk(t *testing.T) {
	d := disk.New(5)
	d.Crash(3, 3)
	wantFiles(t, d)
	want(t, "Append", d.Append("a", "abc"), api.OK)
	d.Sync()
	d.Crash(0, 0)
	wantFiles(t, d, "a", "abc")
}

// P4.5: what a crash left lasts, and what it lost doesn't come back.
func TestBehindACrash(t *testing.T) {
	d := disk.New(5)
	want(t, "Append", d.Append("a", "abc"), api.OK)
	want(t, "Append", d.Append("b", "xyz"), api.ErrFull)
	want(t, "Rename", d.Rename("a", "b"), api.OK)
	wantFiles(t, d, "b", "abc")
	wantPending(t, d, 2)
	d.Crash(1, 9)
	wantFiles(t, d, "a", "abc")
	want(t, "Append", d.Append("a", "de"), api.OK)
	d.Crash(0, 1)
	wantFiles(t, d, "a", "abcd")
	for range 3 {
		d.Crash(0, 9)
		wantFiles(t, d, "a", "abcd")
	}
	want(t, "Append", d.Append("a", "z"), api.OK)
	d.Sync()
	d.Crash(9, 9)
	wantFiles(t, d, "a", "abcdz")
}

// P4.6
func TestFlip(t *testing.T) {
	for bit := range 24 {
		d := filled(t, 9, "a", "abc", "b", "abc")
		want(t, "Flip", d.Flip("a", bit), api.OK)
		turned := []byte("abc")
		turned[bit/8] ^= 1 << (bit % 8)
		wantFiles(t, d, "a", string(turned), "b", "abc")
		wantPending(t, d, 0)
		d.Crash(0, 0)
		wantFiles(t, d, "a", string(turned), "b", "abc")
		want(t, "back", d.Flip("a", bit), api.OK)
		wantFiles(t, d, "a", "abc", "b", "abc")
	}
}

// P4.6
func TestFlipThatCannotBe(t *testing.T) {
	d := filled(t, 20, "a", "abc", "b", "")
	want(t, "Append", d.Append("a", "def"), api.OK)
	want(t, "Append", d.Append("n", "new"), api.OK)
	for _, bit := range []int{-1, math.MinInt, 24, 25, 47, math.MaxInt} {
		want(t, "no bit of what lasts", d.Flip("a", bit), api.ErrArg)
	}
	want(t, "no bit of an empty file", d.Flip("b", 0), api.ErrArg)
	for _, bit := range []int{0, -1, 99} {
		for _, name := range append(noNames(), "n", "c") {
			want(t, "no file that lasts", d.Flip(name, bit), api.ErrMissing)
		}
	}
	wantFiles(t, d, "a", "abcdef", "b", "", "n", "new")
	wantPending(t, d, 2)
}

// P4.6: the changes stay as they were made, and go on from what was turned.
func TestFlipBelowChanges(t *testing.T) {
	d := filled(t, 20, "a", "abc")
	want(t, "Append", d.Append("a", "d"), api.OK)
	want(t, "Rename", d.Rename("a", "b"), api.OK)
	want(t, "Append", d.Append("a", "new"), api.OK)
	want(t, "Append", d.Append("b", "e"), api.OK)
	want(t, "no file that lasts", d.Flip("b", 0), api.ErrMissing)
	want(t, "Flip", d.Flip("a", 1), api.OK)
	wantFiles(t, d, "a", "new", "b", "cbcde")
	wantPending(t, d, 4)
	want(t, "Delete", d.Delete("b"), api.OK)
	want(t, "Flip of what was deleted", d.Flip("a", 8), api.OK)
	wantFiles(t, d, "a", "new")
	d.Crash(2, 1)
	wantFiles(t, d, "a", "n", "b", "cccd")
}

// P4.7, P1
func TestNilDisk(t *testing.T) {
	var d *disk.Disk
	for _, name := range append(names(), noNames()...) {
		want(t, "Append", d.Append(name, ""), api.ErrArg)
		want(t, "Rename", d.Rename(name, "b"), api.ErrArg)
		want(t, "Delete", d.Delete(name), api.ErrArg)
		want(t, "Flip", d.Flip(name, 0), api.ErrArg)
		if s, e := d.Read(name); s != "" || e != api.ErrMissing {
			t.Errorf("Read: %q, %d", s, e)
		}
	}
	d.Sync()
	d.Crash(1, 1)
	if len(d.List()) != 0 || d.Used() != 0 || d.Pending() != 0 {
		t.Errorf("a nil disk: %q, %d, %d", d.List(), d.Used(), d.Pending())
	}
}

// whole is the tear of a change that isn't torn.
const whole = math.MaxInt

// model is a disk as the words tell it: what it holds is worked out from the changes at each call.
type model struct {
	capacity int
	lasts    map[string]string
	changes  []func(files map[string]string, tear int) // does the change; where tear isn't whole, only so many bytes of an append and nothing else
}

func (m *model) done(n int) map[string]string {
	files := map[string]string{}
	for name, s := range m.lasts {
		files[name] = s
	}
	for _, c := range m.changes[:n] {
		c(files, whole)
	}
	return files
}

func (m *model) holds() map[string]string {
	return m.done(len(m.changes))
}

func (m *model) used() int {
	n := 0
	for _, s := range m.holds() {
		n += len(s)
	}
	return n
}

func (m *model) append(name, data string) api.Errno {
	if name == "" || len(name) > api.MaxName {
		return api.ErrArg
	}
	if m.used()+len(data) > m.capacity {
		return api.ErrFull
	}
	m.changes = append(m.changes, func(files map[string]string, tear int) {
		files[name] += data[:min(tear, len(data))]
	})
	return api.OK
}

func (m *model) rename(from, to string) api.Errno {
	files := m.holds()
	_, ok := files[from]
	_, there := files[to]
	switch {
	case to == "" || len(to) > api.MaxName:
		return api.ErrArg
	case !ok:
		return api.ErrMissing
	case there:
		return api.ErrThere
	}
	m.changes = append(m.changes, func(files map[string]string, tear int) {
		if tear == whole {
			files[to] = files[from]
			delete(files, from)
		}
	})
	return api.OK
}

func (m *model) delete(name string) api.Errno {
	if _, ok := m.holds()[name]; !ok {
		return api.ErrMissing
	}
	m.changes = append(m.changes, func(files map[string]string, tear int) {
		if tear == whole {
			delete(files, name)
		}
	})
	return api.OK
}

func (m *model) crash(keep, tear int) {
	keep = min(max(keep, 0), len(m.changes))
	files := m.done(keep)
	if keep < len(m.changes) && tear > 0 {
		m.changes[keep](files, tear)
	}
	m.lasts, m.changes = files, nil
}

func (m *model) flip(name string, bit int) api.Errno {
	s, ok := m.lasts[name]
	if !ok {
		return api.ErrMissing
	}
	if bit < 0 || bit >= 8*len(s) {
		return api.ErrArg
	}
	bytes := []byte(s)
	bytes[bit/8] ^= 1 << (bit % 8)
	m.lasts[name] = string(bytes)
	return api.OK
}

// step does one call on both.
func step(t *testing.T, r *rand.Rand, d *disk.Disk, m *model) {
	t.Helper()
	all := []string{"a", "b", "c", "d", "e", "", strings.Repeat("n", api.MaxName), strings.Repeat("n", api.MaxName+1)}
	name, other := all[r.Intn(len(all))], all[r.Intn(len(all))]
	data := strings.Repeat("xyzab", 2)[r.Intn(4):][:r.Intn(7)]
	switch r.Intn(13) {
	case 0, 1, 2, 3, 4:
		want(t, "Append", d.Append(name, data), m.append(name, data))
	case 5, 6, 7:
		want(t, "Rename", d.Rename(name, other), m.rename(name, other))
	case 8, 9:
		want(t, "Delete", d.Delete(name), m.delete(name))
	case 10:
		if r.Intn(2) == 0 {
			d.Sync()
			m.lasts, m.changes = m.holds(), nil
		}
	case 11:
		keep, tear := r.Intn(9)-2, r.Intn(6)-1
		d.Crash(keep, tear)
		m.crash(keep, tear)
	case 12:
		bit := r.Intn(60) - 5
		want(t, "Flip", d.Flip(name, bit), m.flip(name, bit))
	}
}

// P4.1 to P4.6: any calls, one behind the other.
func TestAnyCalls(t *testing.T) {
	for seed := range int64(300) {
		r := rand.New(rand.NewSource(seed))
		capacity := 10 + r.Intn(40)
		d, m := disk.New(capacity), &model{capacity: capacity, lasts: map[string]string{}}
		for range 100 {
			step(t, r, d, m)
			var files []string
			for name, s := range m.holds() {
				files = append(files, name, s)
			}
			wantFiles(t, d, files...)
			wantPending(t, d, len(m.changes))
			if t.Failed() {
				t.Fatalf("seed %d", seed)
			}
		}
	}
}

// P4.2, P4.4: many small appends don't cost more, each, than few.
func TestManyAppends(t *testing.T) {
	const many = 200000
	d := disk.New(many)
	for range many {
		want(t, "Append", d.Append("a", "x"), api.OK)
		d.Sync()
	}
	wantFiles(t, d, "a", strings.Repeat("x", many))
}
