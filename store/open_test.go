package store_test

import (
	"math/rand"
	"strings"
	"testing"

	"mahout/api"
	"mahout/disk"
	"mahout/store"
)

// P14.1
func TestOpenOfNil(t *testing.T) {
	if s, e := store.Open(nil); s != nil || e != api.ErrArg {
		t.Errorf("%v %d", s, e)
	}
}

// P14.1: good replicas are known, whoever laid them.
func TestOpen(t *testing.T) {
	var files []string
	var blocks []api.Block
	for i, n := range []int{1, 64, 65, 128, api.MaxBlock} {
		b := api.Block{Client: 1, Call: i, Try: api.MaxTime - i}
		blocks = append(blocks, b)
		files = append(files, name(b), replica(b, long(n)))
	}
	d := laid(t, files...)
	s := opened(t, d, blocks...)
	wantFiles(t, d, files...)
	for i, n := range []int{1, 64, 65, 128, api.MaxBlock} {
		wantRead(t, s, blocks[i], long(n), api.OK)
	}
}

// P14.1: bad replicas and what was being written are deleted, and that lasts; good ones stay.
func TestOpenSweeps(t *testing.T) {
	good := api.Block{Client: 3, Call: 3, Try: 3}
	for what, file := range badFiles(one) {
		for _, left := range []string{"", "half", replica(one, "abc")} {
			d := laid(t, name(one), file, "new", left, "tmp", "other's", name(good), replica(good, "good"))
			opened(t, d, good)
			wantFiles(t, d, "tmp", "other's", name(good), replica(good, "good"))
			d.Crash(0, 0)
			if t.Failed() {
				t.Fatalf("%s, new: %q", what, left)
			}
		}
	}
}

// P14.1: names that are no block's: what lies there stays, and isn't known.
func TestOpenLeavesOthersAlone(t *testing.T) {
	var files []string
	for _, other := range []string{
		"blk", "blk-", "blk--", "blk---", "blk-1", "blk-1-2", "blk-1-2-", "blk-1--0", "blk--2-0", "blk-1-2-0-", "blk-1-2-0-0", "blk-1-2-0 ", " blk-1-2-0",
		"blk-01-2-0", "blk-1-02-0", "blk-1-2-00", "blk-+1-2-0", "blk-1-2-+0", "blk-1-2--0", "blk--1-2-0", "blk-a-2-0", "blk-1-2-0x0", "blk-1-2-1_0", "blk-1-2-\xff",
		"blk-1099511627777-2-0", "blk-1-1099511627777-0", "blk-1-2-1099511627777", "blk-99999999999999999999-2-0", "blk-1-2-9223372036854775808",
		"BLK-1-2-0", "blk_1_2_0", "lk-1-2-0", "bblk-1-2-0", "ne", "new-", "New", "new\x00", "tmp", "image-0", "edits-0-0", strings.Repeat("n", api.MaxName),
	} {
		files = append(files, other, replica(one, "abc"))
	}
	d := laid(t, files...)
	opened(t, d)
	wantFiles(t, d, files...)
}

// P14.1: what isn't synced yet is.
func TestOpenSyncs(t *testing.T) {
	d := disk.New(roomy)
	want(t, "Append", d.Append(name(one), replica(one, "abc")), api.OK)
	want(t, "Append", d.Append("other", "x"), api.OK)
	opened(t, d, one)
	wantFiles(t, d, name(one), replica(one, "abc"), "other", "x")
	d.Crash(0, 0)
	wantFiles(t, d, name(one), replica(one, "abc"), "other", "x")
}

// P14.1: a full disk is opened too, and what is swept makes room.
func TestOpenOfAFullDisk(t *testing.T) {
	d := disk.New(len(replica(one, "abc")))
	want(t, "Append", d.Append("new", strings.Repeat("x", len(replica(one, "abc")))), api.OK)
	s := opened(t, d)
	want(t, "Write", s.Write(one, "abc"), api.OK)
	wantFiles(t, d, name(one), replica(one, "abc"))
}

// P14.1: whichever bit turned while nobody looked.
func TestOpenBehindAnyTurnedBit(t *testing.T) {
	file := replica(one, long(66))
	for bit := range 8 * len(file) {
		d := laid(t, name(one), file)
		flip(t, d, name(one), bit)
		opened(t, d)
		wantFiles(t, d)
	}
}

// P14.2: a crash at any moment of a Write leaves the whole replica or none, and what was there stays.
func TestCrashWithinWrite(t *testing.T) {
	two := api.Block{Client: 1, Call: 2, Try: 1}
	file := replica(one, long(65))
	steps := []func(d *disk.Disk){
		func(d *disk.Disk) { d.Append("new", file) },
		func(d *disk.Disk) { d.Sync() },
		func(d *disk.Disk) { d.Rename("new", name(one)) },
		func(d *disk.Disk) { d.Sync() },
	}
	for n := range len(steps) + 1 {
		for keep := range 3 {
			for tear := range len(file) + 2 {
				d := laid(t, name(two), replica(two, "two"))
				for _, do := range steps[:n] {
					do(d)
				}
				d.Crash(keep, tear)
				known := []api.Block{two}
				if n == 4 || n == 3 && keep > 0 {
					known = []api.Block{one, two}
				}
				s := opened(t, d, known...)
				wantRead(t, s, two, "two", api.OK)
				want(t, "Write", s.Write(one, long(65)), api.OK)
				wantFiles(t, d, name(one), file, name(two), replica(two, "two"))
			}
		}
	}
}

// P14.2, P14.3: what was answered lasts.
func TestCrashBehindAnyCall(t *testing.T) {
	d := disk.New(roomy)
	s := opened(t, d)
	two := api.Block{Client: 1, Call: 2, Try: 1}
	want(t, "Write", s.Write(one, "abc"), api.OK)
	d.Crash(0, 0)
	s = opened(t, d, one)
	want(t, "Write", s.Write(two, "def"), api.OK)
	want(t, "Drop", s.Drop(one), api.OK)
	d.Crash(0, 0)
	s = opened(t, d, two)
	flip(t, d, name(two), 5)
	wantRead(t, s, two, "", api.ErrBad)
	d.Crash(0, 0)
	s = opened(t, d)
	want(t, "Write", s.Write(one, "abc"), api.OK)
	flip(t, d, name(one), 5)
	wantBlocks(t, "Scrub", s.Scrub(), one)
	d.Crash(0, 0)
	wantFiles(t, d)
}

// held is a store as the words tell it: of each known block the data, and whether its file is a good replica.
type held map[api.Block]*kept

type kept struct {
	data string
	good bool
}

// blocks: the known ones, rising; or of these the bad ones alone.
func (h held) blocks(badAlone bool) []api.Block {
	var all []api.Block
	for client := range 2 {
		for call := range 2 {
			for try := range 2 {
				b := api.Block{Client: client, Call: call, Try: try}
				if k := h[b]; k != nil && !(badAlone && k.good) {
					all = append(all, b)
				}
			}
		}
	}
	return all
}

// write: what Write answers, on a disk with so much room left.
func (h held) write(b api.Block, data string, room int) api.Errno {
	k := h[b]
	switch {
	case k != nil && k.good && k.data == data:
		return api.OK
	case k != nil:
		return api.ErrThere
	case len(replica(b, data)) > room:
		return api.ErrFull
	}
	h[b] = &kept{data, true}
	return api.OK
}

// read: what Read answers.
func (h held) read(b api.Block) (string, api.Errno) {
	k := h[b]
	if k == nil {
		return "", api.ErrGone
	}
	if !k.good {
		delete(h, b)
		return "", api.ErrBad
	}
	return k.data, api.OK
}

// spoil does a file some harm.
func (h held) spoil(t *testing.T, r *rand.Rand, d *disk.Disk, b api.Block) {
	k := h[b]
	if k == nil || !k.good {
		return
	}
	k.good = false
	if r.Intn(3) == 0 {
		want(t, "Delete", d.Delete(name(b)), api.OK)
		d.Sync()
		return
	}
	flip(t, d, name(b), r.Intn(8*len(replica(b, k.data))))
}

// stepBoth does one call on a store and on what the words tell of it.
func stepBoth(t *testing.T, r *rand.Rand, d *disk.Disk, s *store.Store, h held, capacity int) *store.Store {
	b := api.Block{Client: r.Intn(2), Call: r.Intn(2), Try: r.Intn(2)}
	switch r.Intn(10) {
	case 0, 1, 2, 3:
		data := long(1 + r.Intn(3)*64)
		errno := h.write(b, data, capacity-d.Used())
		want(t, "Write", s.Write(b, data), errno)
	case 4, 5:
		data, errno := h.read(b)
		wantRead(t, s, b, data, errno)
	case 6:
		errno := api.ErrGone
		if h[b] != nil {
			errno = api.OK
		}
		delete(h, b)
		want(t, "Drop", s.Drop(b), errno)
	case 7:
		h.spoil(t, r, d, b)
	case 8:
		bad := h.blocks(true)
		wantBlocks(t, "Scrub", s.Scrub(), bad...)
		for _, b := range bad {
			delete(h, b)
		}
	case 9:
		d.Crash(r.Intn(3), r.Intn(3))
		for _, b := range h.blocks(true) {
			delete(h, b)
		}
		return opened(t, d, h.blocks(false)...)
	}
	return s
}

// P14.1 to P14.4: any calls, turned bits and crashes, one behind the other.
func TestAnyCalls(t *testing.T) {
	for seed := range int64(200) {
		r := rand.New(rand.NewSource(seed))
		capacity := 100 + r.Intn(1200)
		d, h := disk.New(capacity), held{}
		s := opened(t, d)
		for range 100 {
			s = stepBoth(t, r, d, s, h, capacity)
			wantBlocks(t, "List", s.List(), h.blocks(false)...)
			if d.Pending() != 0 {
				t.Errorf("%d changes don't last", d.Pending())
			}
			if t.Failed() {
				t.Fatalf("seed %d", seed)
			}
		}
	}
}
