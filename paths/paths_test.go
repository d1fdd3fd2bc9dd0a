package paths_test

import (
	"math/rand"
	"slices"
	"strings"
	"testing"
	"unsafe"

	"mahout/api"
	"mahout/paths"
)

// atMost is a path of just MaxPath bytes, and of so many parts.
func atMost() string {
	full := "/" + strings.Repeat("n", api.MaxName)
	return strings.Repeat(full, 3) + full[:api.MaxPath-3*len(full)]
}

// some are paths, in the order in which they stand.
func some() []string {
	return []string{
		"/",
		"/!",
		"/!/z",
		"/-",
		"/...",
		"/.a",
		"/0",
		"/A",
		"/_",
		"/a",
		"/a/!",
		"/a/b",
		"/a/b/c",
		"/a/b/c/d",
		"/a/b.",
		"/a/b.c/a",
		"/a/bb",
		"/a!",
		"/a.b",
		"/a.b/a",
		"/a0",
		"/ab",
		"/ab/a",
		"/b",
		strings.Repeat("/b", api.MaxDepth),
		"/m/" + strings.Repeat("m", api.MaxName),
		atMost(),
		"/z",
		"/~",
		"/~/!",
		"/~~",
	}
}

// none are texts that are no paths, in the order of texts.
func none() []string {
	list := []string{
		"", "a", "a/b", "a/", "//", "///", "//a", "/a/", "/a//", "/a//b", "/a/b/", "/.", "/..", "/./a", "/../a", "/a/.", "/a/..", "/a/./b", "/a/../b",
		".", "..", " ", " /a", "/ ", "/a ", "/ a", "/a b", "/a/ /b", "/\x00", "/a\x00", "/\x1f", "/\x7f", "/a\x7f", "/\x80", "/\xff", "/é", "/a\n", "\\a",
		"/" + strings.Repeat("n", api.MaxName+1), "/a/" + strings.Repeat("n", api.MaxName+1) + "/b",
		strings.Repeat("/b", api.MaxDepth+1), strings.Repeat("/b", api.MaxDepth) + "/", strings.Repeat("/b", 1<<20),
		atMost() + "n", atMost() + "/", strings.Repeat("/", 1<<20), strings.Repeat("n", 1<<20), "/" + strings.Repeat("n", 1<<20),
	}
	slices.Sort(list)
	return list
}

// P6.1
func TestCheck(t *testing.T) {
	for _, p := range some() {
		if e := paths.Check(p); e != api.OK {
			t.Errorf("Check(%q): %d", p, e)
		}
	}
	for _, p := range none() {
		if e := paths.Check(p); e != api.ErrPath {
			t.Errorf("Check(%.80q): %d", p, e)
		}
	}
}

// P6.1: which bytes a part has (a slash ends it).
func TestCheckOfEachByte(t *testing.T) {
	for b := range 256 {
		want := api.OK
		if b < 0x21 || b > 0x7E {
			want = api.ErrPath
		}
		for _, p := range []string{"/x" + string([]byte{byte(b)}) + "x", "/" + string([]byte{byte(b), 'x'})} {
			if p == "//x" {
				continue // a slash ahead of which there is no part
			}
			if e := paths.Check(p); e != want {
				t.Errorf("Check(%q): %d", p, e)
			}
		}
	}
}

// isPath says by the words, byte by byte, whether a short text is a path.
func isPath(p string) bool {
	if p == "/" {
		return true
	}
	part := "/" // nothing may stand ahead of the first slash
	for i := 0; i <= len(p); i++ {
		if i < len(p) && p[i] != '/' {
			part += p[i : i+1]
			continue
		}
		if i > 0 && (part == "" || part == "." || part == ".." || strings.ContainsAny(part, "/ ")) {
			return false
		}
		part = ""
	}
	return strings.HasPrefix(p, "/")
}

// P6.1: all short texts of a few bytes.
func TestAllShortTexts(t *testing.T) {
	all := []string{""}
	for len(all[0]) < 7 {
		var longer []string
		for _, p := range all {
			if got := paths.Check(p) == api.OK; got != isPath(p) {
				t.Errorf("Check(%q): %v", p, got)
			}
			for _, b := range []string{"/", ".", "a", " "} {
				longer = append(longer, p+b)
			}
		}
		all = longer
	}
}

// P6.1
func TestSplit(t *testing.T) {
	for p, want := range map[string][]string{
		"/":                                nil,
		"/a":                               {"a"},
		"/a/b":                             {"a", "b"},
		"/.a/b.":                           {".a", "b."},
		"/.../~":                           {"...", "~"},
		strings.Repeat("/b", api.MaxDepth): slices.Repeat([]string{"b"}, api.MaxDepth),
	} {
		if got, e := paths.Split(p); !slices.Equal(got, want) || e != api.OK {
			t.Errorf("Split(%q): %q, %d", p, got, e)
		}
	}
	for _, p := range none() {
		if got, e := paths.Split(p); len(got) != 0 || e != api.ErrPath {
			t.Errorf("Split(%.80q): %.80q, %d", p, got, e)
		}
	}
}

// P6.1: what was cut is joined to the same path.
func TestSplitAndJoin(t *testing.T) {
	for _, p := range some() {
		parts, e := paths.Split(p)
		if got, joinE := paths.Join(parts...); got != p || e != api.OK || joinE != api.OK {
			t.Errorf("Join of %q: %q, %d, %d", parts, got, e, joinE)
		}
	}
	if got, e := paths.Join(); got != "/" || e != api.OK {
		t.Errorf("Join of no part: %q, %d", got, e)
	}
}

// P6.1
func TestJoinOfNoParts(t *testing.T) {
	long := strings.Repeat("n", api.MaxName)
	for _, parts := range [][]string{
		{""}, {"", ""}, {"a", ""}, {"", "a"}, {"a", "", "b"}, {"/"}, {"/a"}, {"a/"}, {"a/b"}, {"a", "b/c"}, {"."}, {".."}, {"a", "."}, {"..", "a"},
		{" "}, {"a b"}, {"a\x00"}, {"\x7f"}, {"é"}, {long + "n"}, {"a", long + "n"}, {strings.Repeat("n", 1<<20)},
		{long, long, long, long}, {long, long, long, long[:api.MaxPath-3*(api.MaxName+1)]}, // 260, 257 bytes
		slices.Repeat([]string{"b"}, api.MaxDepth+1), slices.Repeat([]string{"b"}, 1<<20), make([]string, 1<<20),
	} {
		if got, e := paths.Join(parts...); got != "" || e != api.ErrPath {
			t.Errorf("Join(%.80q): %q, %d", parts[:min(len(parts), 20)], got, e)
		}
	}
	if got, e := paths.Join(long, long, long, long[:api.MaxPath-3*(api.MaxName+1)-1]); got != atMost() || e != api.OK {
		t.Errorf("Join to %d bytes: %q, %d", api.MaxPath, got, e)
	}
}

// P6.2
func TestParentAndBase(t *testing.T) {
	wantBoth := func(p, wantParent, wantBase string, want api.Errno) {
		t.Helper()
		if got, e := paths.Parent(p); got != wantParent || e != want {
			t.Errorf("Parent(%.80q): %q, %d", p, got, e)
		}
		if got, e := paths.Base(p); got != wantBase || e != want {
			t.Errorf("Base(%.80q): %q, %d", p, got, e)
		}
	}
	wantBoth("/a", "/", "a", api.OK)
	wantBoth("/a/b", "/a", "b", api.OK)
	wantBoth("/ab/.c/d.e", "/ab/.c", "d.e", api.OK)
	wantBoth(atMost(), atMost()[:3*(api.MaxName+1)], atMost()[3*(api.MaxName+1)+1:], api.OK)
	wantBoth("/", "", "", api.ErrPath)
	for _, p := range none() {
		wantBoth(p, "", "", api.ErrPath)
	}
	for _, p := range some()[1:] {
		parts, _ := paths.Split(p)
		above, _ := paths.Join(parts[:len(parts)-1]...)
		wantBoth(p, above, parts[len(parts)-1], api.OK)
	}
}

// P6.3
func TestWithin(t *testing.T) {
	for _, c := range [][2]string{{"/", "/"}, {"/a", "/"}, {"/a", "/a"}, {"/a/b", "/a"}, {"/a/b/c", "/a"}, {"/a/b/c", "/a/b"}, {"/a/b/c", "/"}, {"/a.b/c", "/a.b"}} {
		if !paths.Within(c[0], c[1]) {
			t.Errorf("Within(%q, %q): false", c[0], c[1])
		}
	}
	for _, c := range [][2]string{{"/", "/a"}, {"/ab", "/a"}, {"/a", "/ab"}, {"/a", "/a/b"}, {"/a/b", "/b"}, {"/a/bc", "/a/b"}, {"/b/a", "/a"}, {"/a.b", "/a"}, {"/A/b", "/a"}} {
		if paths.Within(c[0], c[1]) {
			t.Errorf("Within(%q, %q): true", c[0], c[1])
		}
	}
	for _, p := range some() {
		for _, dir := range some() {
			if want := dir == "/" || strings.HasPrefix(p+"/", dir+"/"); paths.Within(p, dir) != want {
				t.Errorf("Within(%q, %q): %v", p, dir, !want)
			}
		}
	}
}

// P6.3: where one is no path neither is within the other.
func TestWithinOfNoPath(t *testing.T) {
	for _, p := range none() {
		for _, other := range slices.Concat(none(), some()) {
			if paths.Within(p, other) || paths.Within(other, p) {
				t.Errorf("Within of %.80q and %.80q: true", p, other)
			}
		}
	}
}

// P6.4: all paths stand in their order, and what is none behind them.
func TestCompare(t *testing.T) {
	all := slices.Concat(some(), none())
	for i, a := range all {
		for k, b := range all {
			want := 0
			if i < k {
				want = -1
			} else if i > k {
				want = 1
			}
			if got := paths.Compare(a, b); got != want {
				t.Errorf("Compare(%.80q, %.80q): %d, not %d", a, b, got, want)
			}
		}
	}
}

// P6.4: paths of parts that are alike in their first bytes.
func TestCompareOfAnyPaths(t *testing.T) {
	r := rand.New(rand.NewSource(1))
	var all [][]string
	for range 400 {
		parts := make([]string, r.Intn(5))
		for i := range parts {
			parts[i] = []string{"a", "a!", "a.", "aa", "b", "-", "A"}[r.Intn(7)]
		}
		all = append(all, parts)
	}
	for _, a := range all {
		for _, b := range all {
			one, _ := paths.Join(a...)
			two, _ := paths.Join(b...)
			if got, want := paths.Compare(one, two), byParts(a, b); got != want {
				t.Errorf("Compare(%q, %q): %d, not %d", one, two, got, want)
			}
		}
	}
}

// byParts compares part by part, as the words tell it.
func byParts(a, b []string) int {
	switch {
	case len(a) == 0 && len(b) == 0:
		return 0
	case len(a) == 0:
		return -1
	case len(b) == 0:
		return 1
	case a[0] == b[0]:
		return byParts(a[1:], b[1:])
	case a[0] < b[0]:
		return -1
	}
	return 1
}

// liesIn: does a text lie in another one's memory?
func liesIn(part, whole string) bool {
	at, start := uintptr(unsafe.Pointer(unsafe.StringData(part))), uintptr(unsafe.Pointer(unsafe.StringData(whole)))
	return at >= start && at < start+uintptr(len(whole))
}

// P6.1, P6.2: what is handed in isn't changed, and an answer is new memory.
func TestAnswersAreNewMemory(t *testing.T) {
	p := strings.Repeat("/ab", 3)
	parts, _ := paths.Split(p)
	base, _ := paths.Base(p)
	parent, _ := paths.Parent(p)
	for _, answer := range append(parts, base, parent) {
		if liesIn(answer, p) {
			t.Errorf("%q lies in the path that was handed in", answer)
		}
	}
	room := []string{"a", "b", "x", "y"}
	if got, e := paths.Join(room[:2]...); got != "/a/b" || e != api.OK {
		t.Errorf("Join: %q, %d", got, e)
	}
	if !slices.Equal(room, []string{"a", "b", "x", "y"}) {
		t.Errorf("the list is %q now", room)
	}
	parts[0] = "x"
	if again, _ := paths.Split(p); again[0] != "ab" {
		t.Errorf("Split, a second time: %q", again)
	}
}
