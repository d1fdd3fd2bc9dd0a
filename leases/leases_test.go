package leases_test

import (
	"math"
	"math/rand"
	"slices"
	"strings"
	"testing"

	"mahout/api"
	"mahout/leases"
)

func wantHolder(t *testing.T, l *leases.Table, path string, client int, held bool) {
	t.Helper()
	if c, ok := l.Holder(path); c != client || ok != held {
		t.Errorf("Holder(%q): %d %v, not %d %v", path, c, ok, client, held)
	}
}

func wantDue(t *testing.T, l *leases.Table, now int, paths ...string) {
	t.Helper()
	if got := l.Due(now); !slices.Equal(got, paths) {
		t.Errorf("Due(%d): %q, not %q", now, got, paths)
	}
}

// The chapter's example.
func TestExample(t *testing.T) {
	l := leases.New(3)
	l.Grant("/a", 1, 10)
	l.Grant("/b", 2, 11)
	l.Renew(1, 12)
	wantDue(t, l, 13)
	wantDue(t, l, 14, "/b")
	wantDue(t, l, 15, "/a", "/b")
}

// P13.1: nothing is held at first.
func TestNew(t *testing.T) {
	for _, length := range []int{3, 0, -1, math.MinInt, math.MaxInt} {
		l := leases.New(length)
		if l == nil {
			t.Fatalf("New(%d): nil", length)
		}
		wantHolder(t, l, "", 0, false)
		wantHolder(t, l, "/a", 0, false)
		wantDue(t, l, math.MaxInt)
		l.Drop("/a")
		l.Renew(1, 5)
		l.Renew(0, 5)
		wantHolder(t, l, "/a", 0, false)
		wantDue(t, l, math.MaxInt)
	}
}

// P13.1: any text is a path, any number a client.
func TestGrant(t *testing.T) {
	l := leases.New(3)
	paths := []string{"", "/", "/a", "/a/", "/A", "a b\n", "\x00", "\xff\xfe", strings.Repeat("p", 2*api.MaxPath)}
	for _, client := range []int{1, 0, -1, 2, math.MaxInt, math.MinInt} {
		for i, path := range paths {
			l.Grant(path, client, 10)
			wantHolder(t, l, path, client, true)
			if client == 1 {
				for _, other := range paths[i+1:] {
					wantHolder(t, l, other, 0, false)
				}
			}
		}
	}
	wantHolder(t, l, "/b", 0, false)
}

// P13.1: whoever held it, and whatever was heard of that one.
func TestGrantOfAHeldPath(t *testing.T) {
	l := leases.New(3)
	l.Grant("/a", 1, 10)
	l.Grant("/a", 2, 20)
	wantHolder(t, l, "/a", 2, true)
	wantDue(t, l, 22)
	wantDue(t, l, 23, "/a")
	l.Renew(1, 30)
	wantDue(t, l, 23, "/a")
	l.Renew(2, 30)
	wantDue(t, l, 32)
	wantDue(t, l, 33, "/a")
	l.Grant("/a", 2, 5) // an earlier moment
	wantHolder(t, l, "/a", 2, true)
	wantDue(t, l, 7)
	wantDue(t, l, 8, "/a")
}

// P13.1: a grant tells nothing of the other paths of its client.
func TestGrantIsNoRenewal(t *testing.T) {
	l := leases.New(3)
	l.Grant("/a", 1, 10)
	l.Grant("/b", 1, 20)
	wantDue(t, l, 13, "/a")
	wantDue(t, l, 23, "/a", "/b")
}

// P13.1: of each path that the client holds then, and of no other.
func TestRenew(t *testing.T) {
	l := leases.New(3)
	l.Renew(1, 100) // holds nothing yet
	l.Grant("/a", 1, 10)
	l.Grant("/b", 2, 11)
	l.Grant("/c", 1, 12)
	l.Grant("/d", 0, 12)
	l.Renew(1, 20)
	wantDue(t, l, 15, "/b", "/d")
	wantDue(t, l, 22, "/b", "/d")
	wantDue(t, l, 23, "/a", "/b", "/c", "/d")
	l.Renew(3, 50)
	wantDue(t, l, 23, "/a", "/b", "/c", "/d")
	l.Renew(0, 50)
	wantDue(t, l, 23, "/a", "/b", "/c")
	l.Renew(1, 4) // an earlier moment
	wantDue(t, l, 6)
	wantDue(t, l, 7, "/a", "/c")
	for path, client := range map[string]int{"/a": 1, "/b": 2, "/c": 1, "/d": 0} {
		wantHolder(t, l, path, client, true)
	}
}

// P13.1
func TestDrop(t *testing.T) {
	l := leases.New(3)
	l.Grant("/a", 1, 10)
	l.Grant("/a/b", 1, 10)
	l.Drop("/b")
	l.Drop("/a")
	wantHolder(t, l, "/a", 0, false)
	wantHolder(t, l, "/a/b", 1, true)
	wantDue(t, l, 100, "/a/b")
	l.Renew(1, 100)
	wantHolder(t, l, "/a", 0, false)
	wantDue(t, l, 103, "/a/b")
	l.Drop("/a")
	l.Grant("/a", 2, 50)
	wantHolder(t, l, "/a", 2, true)
	wantDue(t, l, 53, "/a")
}

// P13.2: at now - length or earlier, and not a moment later.
func TestDueAtTheEdge(t *testing.T) {
	for _, length := range []int{1, 2, 3, 1000, api.MaxTime - 1} {
		l := leases.New(length)
		l.Grant("/a", 1, 0)
		wantDue(t, l, length-1)
		wantDue(t, l, length, "/a")
		l.Grant("/a", 1, 1)
		wantDue(t, l, length)
		wantDue(t, l, length+1, "/a")
	}
}

// P13.2: rising byte by byte.
func TestOrderOfDue(t *testing.T) {
	rising := []string{"", "\x00", "/", "/A", "/a", "/a\x00", "/a-", "/a/b", "/aa", "/b", "b", "\x80", "é", "\xff"}
	for seed := range int64(20) {
		r := rand.New(rand.NewSource(seed))
		l := leases.New(3)
		for _, i := range r.Perm(len(rising)) {
			l.Grant(rising[i], i, r.Intn(10))
		}
		wantDue(t, l, 100, rising...)
	}
}

// P13.2: what is due is held all the same.
func TestDueIsHeld(t *testing.T) {
	l := leases.New(3)
	l.Grant("/a", 1, 10)
	wantDue(t, l, 20, "/a")
	wantHolder(t, l, "/a", 1, true)
	wantDue(t, l, 20, "/a")
	l.Renew(1, 18)
	wantDue(t, l, 20)
	wantDue(t, l, 21, "/a")
	l.Drop("/a")
	wantDue(t, l, 21)
}

// Moments and lengths are cut to their bounds.
func TestBounds(t *testing.T) {
	for _, length := range []int{1, 0, -1, math.MinInt} {
		l := leases.New(length)
		l.Grant("/a", 1, 10)
		wantDue(t, l, 10)
		wantDue(t, l, 11, "/a")
	}
	for _, length := range []int{api.MaxTime, api.MaxTime + 1, math.MaxInt} {
		l := leases.New(length)
		l.Grant("/a", 1, 0)
		wantDue(t, l, api.MaxTime-1)
		for _, now := range []int{api.MaxTime, api.MaxTime + 1, math.MaxInt} {
			wantDue(t, l, now, "/a")
		}
		l.Renew(1, 1)
		wantDue(t, l, math.MaxInt)
	}
	for _, early := range []int{0, -1, -5, math.MinInt} {
		l := leases.New(3)
		l.Grant("/a", 1, early)
		l.Grant("/b", 2, 10)
		l.Renew(2, early)
		wantDue(t, l, early)
		wantDue(t, l, 2)
		wantDue(t, l, 3, "/a", "/b")
	}
	for _, late := range []int{api.MaxTime, api.MaxTime + 1, math.MaxInt} {
		l := leases.New(3)
		l.Grant("/a", 1, late)
		l.Grant("/b", 2, 10)
		l.Renew(2, late)
		wantDue(t, l, late)
		l.Renew(2, api.MaxTime-3)
		wantDue(t, l, api.MaxTime-1)
		wantDue(t, l, late, "/b")
	}
}

// An answer is new memory, and tables have nothing to do with one another.
func TestNothingIsShared(t *testing.T) {
	one, two := leases.New(3), leases.New(3)
	one.Grant("/a", 1, 10)
	one.Grant("/b", 1, 10)
	wantHolder(t, two, "/a", 0, false)
	due := one.Due(20)
	due[0] = "/z"
	wantDue(t, one, 20, "/a", "/b")
	two.Grant("/a", 2, 30)
	two.Drop("/b")
	wantHolder(t, one, "/a", 1, true)
	wantDue(t, one, 20, "/a", "/b")
}

// P13.3
func TestNil(t *testing.T) {
	var l *leases.Table
	l.Grant("/a", 1, 10)
	l.Renew(1, 10)
	l.Drop("/a")
	wantHolder(t, l, "/a", 0, false)
	wantDue(t, l, math.MaxInt)
}

// row is a lease as the words tell it.
type row struct {
	path          string
	client, heard int
}

// rows are a table as the words tell it: a row for each path that is held.
type rows []row

func (r rows) at(path string) int {
	return slices.IndexFunc(r, func(x row) bool { return x.path == path })
}

func (r rows) due(now, length int) []string {
	var paths []string
	for _, x := range r {
		if x.heard <= now-length {
			paths = append(paths, x.path)
		}
	}
	slices.Sort(paths)
	return paths
}

// stepBoth does one call on a table and on its rows.
func stepBoth(r *rand.Rand, l *leases.Table, held rows) rows {
	path := []string{"", "/a", "/b", "/a/b", "\xff"}[r.Intn(5)]
	client, now := r.Intn(4)-1, r.Intn(30)
	switch r.Intn(4) {
	case 0, 1:
		l.Grant(path, client, now)
		if i := held.at(path); i >= 0 {
			held = slices.Delete(held, i, i+1)
		}
		held = append(held, row{path, client, now})
	case 2:
		l.Renew(client, now)
		for i := range held {
			if held[i].client == client {
				held[i].heard = now
			}
		}
	case 3:
		l.Drop(path)
		if i := held.at(path); i >= 0 {
			held = slices.Delete(held, i, i+1)
		}
	}
	return held
}

// P13.1, P13.2: any calls, one behind the other.
func TestAnyCalls(t *testing.T) {
	for seed := range int64(300) {
		r := rand.New(rand.NewSource(seed))
		length := 1 + r.Intn(8)
		l, held := leases.New(length), rows(nil)
		for range 100 {
			held = stepBoth(r, l, held)
			now := r.Intn(40)
			wantDue(t, l, now, held.due(now, length)...)
			for _, path := range []string{"", "/a", "/b", "/a/b", "\xff", "/c"} {
				if i := held.at(path); i >= 0 {
					wantHolder(t, l, path, held[i].client, true)
				} else {
					wantHolder(t, l, path, 0, false)
				}
			}
			if t.Failed() {
				t.Fatalf("seed %d", seed)
			}
		}
	}
}
