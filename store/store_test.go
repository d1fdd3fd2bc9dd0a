package store_test

import (
	"math/rand"
	"slices"
	"strings"
	"testing"

	"mahout/api"
	"mahout/disk"
	"mahout/store"
)

// one is the block of the chapter's example.
var one = api.Block{Client: 1, Call: 2, Try: 0}

// The chapter's example.
func TestExample(t *testing.T) {
	d := disk.New(roomy)
	s := opened(t, d)
	want(t, "Write", s.Write(one, "abc"), api.OK)
	wantFiles(t, d, "blk-1-2-0", replica(one, "abc"))
	wantRead(t, s, one, "abc", api.OK)
	flip(t, d, "blk-1-2-0", 77)
	wantRead(t, s, one, "", api.ErrBad)
	wantRead(t, s, one, "", api.ErrGone)
}

// The form of a file, byte for byte.
func TestForm(t *testing.T) {
	d := disk.New(roomy)
	want(t, "Write", opened(t, d).Write(one, "abc"), api.OK)
	// The Sum of "abc" is 364B3FB7: twice that, in pieces of seven bits, is EE FE D9 E4 06.
	head := "\x02\x04\x00\x06\xee\xfe\xd9\xe4\x06"
	file := "\x09\x00\x00\x00" + four(sum("\x09\x00\x00\x00")) + head + four(sum(head)) + "\x03\x00\x00\x00" + four(sum("\x03\x00\x00\x00")) + "abc" + "\xb7\x3f\x4b\x36"
	wantFiles(t, d, "blk-1-2-0", file)
}

// P14.2: of any length, also where the last chunk is a whole one, or of one byte.
func TestWrite(t *testing.T) {
	d := disk.New(roomy)
	s := opened(t, d)
	var files []string
	for i, n := range []int{1, 2, 63, 64, 65, 127, 128, 129, 1000, api.MaxBlock - 1, api.MaxBlock} {
		b := api.Block{Client: 7, Call: 3, Try: i}
		want(t, "Write", s.Write(b, long(n)), api.OK)
		files = append(files, name(b), replica(b, long(n)))
		wantFiles(t, d, files...)
		wantRead(t, s, b, long(n), api.OK)
	}
	bytes := api.Block{Client: 8, Call: 1, Try: 1}
	want(t, "Write of any bytes", s.Write(bytes, "\x00\xff\n"), api.OK)
	wantRead(t, s, bytes, "\x00\xff\n", api.OK)
	wantRead(t, opened(t, d, s.List()...), bytes, "\x00\xff\n", api.OK)
}

// P14.2: names at the bounds.
func TestWriteOfGoodNames(t *testing.T) {
	d := disk.New(roomy)
	s := opened(t, d)
	for _, b := range goodNames() {
		want(t, "Write", s.Write(b, name(b)), api.OK)
		if got, e := d.Read(name(b)); got != replica(b, name(b)) || e != api.OK {
			t.Errorf("%s: %q", name(b), got)
		}
	}
	again := opened(t, d, s.List()...)
	if n := len(again.List()); n != len(goodNames()) {
		t.Errorf("%d are known", n)
	}
	for _, b := range goodNames() {
		wantRead(t, again, b, name(b), api.OK)
	}
}

// P14.2: names beyond the bounds, and data of no length that there is; ahead of all other errors.
func TestWriteOfWrongArguments(t *testing.T) {
	full := disk.New(0)
	roomyDisk := disk.New(roomy)
	for _, d := range []*disk.Disk{full, roomyDisk} {
		s := opened(t, d)
		for _, b := range badNames() {
			want(t, "a bad name", s.Write(b, "abc"), api.ErrArg)
			wantRead(t, s, b, "", api.ErrGone)
			want(t, "Drop", s.Drop(b), api.ErrGone)
		}
		want(t, "no data", s.Write(one, ""), api.ErrArg)
		want(t, "too much data", s.Write(one, long(api.MaxBlock+1)), api.ErrArg)
		wantFiles(t, d)
		wantBlocks(t, "List", s.List())
	}
	s := opened(t, roomyDisk)
	want(t, "Write", s.Write(one, "abc"), api.OK)
	want(t, "no data of a known block", s.Write(one, ""), api.ErrArg)
	want(t, "too much data of a known block", s.Write(one, long(api.MaxBlock+1)), api.ErrArg)
	wantRead(t, s, one, "abc", api.OK)
}

// P14.2: a known block is written once: the same data are taken as done, others aren't.
func TestWriteOfAKnownBlock(t *testing.T) {
	d := disk.New(len(replica(one, "abc")))
	s := opened(t, d)
	want(t, "Write", s.Write(one, "abc"), api.OK)
	for range 2 {
		want(t, "the same", s.Write(one, "abc"), api.OK)
		for _, data := range []string{"abd", "ab", "abcd", "x", long(api.MaxBlock)} {
			want(t, "other data", s.Write(one, data), api.ErrThere)
		}
		wantFiles(t, d, name(one), replica(one, "abc"))
		wantRead(t, s, one, "abc", api.OK)
		s = opened(t, d, one)
	}
}

// P14.2: where the file of a known block isn't good, not even the same data are taken; and nothing changes.
func TestWriteOfAKnownBadBlock(t *testing.T) {
	d := disk.New(roomy)
	s := opened(t, d)
	want(t, "Write", s.Write(one, "abc"), api.OK)
	flip(t, d, name(one), 3)
	turned, _ := d.Read(name(one))
	want(t, "a bit has turned", s.Write(one, "abc"), api.ErrThere)
	wantFiles(t, d, name(one), turned)
	wantBlocks(t, "List", s.List(), one)
	flip(t, d, name(one), 3)
	want(t, "turned back", s.Write(one, "abc"), api.OK)

	for what, file := range badFiles(one) {
		replace(t, d, name(one), file)
		want(t, what, s.Write(one, long(130)), api.ErrThere)
		wantFiles(t, d, name(one), file)
	}
	want(t, "Delete", d.Delete(name(one)), api.OK)
	want(t, "the file is gone", s.Write(one, "abc"), api.ErrThere)
	wantBlocks(t, "List", s.List(), one)
	wantRead(t, s, one, "", api.ErrBad)
	want(t, "not known any more", s.Write(one, "abd"), api.OK)
	wantRead(t, s, one, "abd", api.OK)
}

// P14.2: a byte of room too little, and just enough.
func TestWriteOnAFullDisk(t *testing.T) {
	two := api.Block{Client: 1, Call: 2, Try: 1}
	for _, data := range []string{"a", "abc", long(64), long(65), long(api.MaxBlock)} {
		size := len(replica(one, data))
		d := disk.New(size - 1)
		s := opened(t, d)
		want(t, "no room", s.Write(one, data), api.ErrFull)
		wantFiles(t, d)
		wantBlocks(t, "List", s.List())
		wantRead(t, s, one, "", api.ErrGone)

		d = disk.New(2*size - 1)
		s = opened(t, d)
		want(t, "room", s.Write(one, data), api.OK)
		want(t, "no room for a second one", s.Write(two, data), api.ErrFull)
		want(t, "the first one again", s.Write(one, data), api.OK)
		want(t, "the first one with other data", s.Write(one, "x"+data[1:]), api.ErrThere)
		wantFiles(t, d, name(one), replica(one, data))
		want(t, "Drop", s.Drop(one), api.OK)
		want(t, "room again", s.Write(two, data), api.OK)
		wantFiles(t, d, name(two), replica(two, data))
	}
}

// P14.2: where there is no room nothing changes, not what somebody else hasn't synced either.
func TestNoRoomChangesNothing(t *testing.T) {
	d := disk.New(10)
	s := opened(t, d)
	want(t, "Append", d.Append("other", "x"), api.OK)
	want(t, "Write", s.Write(one, "abc"), api.ErrFull)
	if d.Pending() != 1 {
		t.Errorf("%d changes don't last", d.Pending())
	}
	d.Crash(0, 0)
	wantFiles(t, d)
}

// A file that somebody else laid under a block's name gives way.
func TestWriteOverAStranger(t *testing.T) {
	d := disk.New(roomy)
	s := opened(t, d)
	want(t, "Append", d.Append(name(one), "stranger"), api.OK)
	want(t, "Write", s.Write(one, "abc"), api.OK)
	wantFiles(t, d, name(one), replica(one, "abc"))
	wantRead(t, s, one, "abc", api.OK)
}

// P14.3: whichever bit turns.
func TestReadBehindAnyTurnedBit(t *testing.T) {
	data := long(70)
	file := replica(one, data)
	for bit := range 8 * len(file) {
		d := laid(t, name(one), file, "other", "x")
		s := opened(t, d, one)
		flip(t, d, name(one), bit)
		wantRead(t, s, one, "", api.ErrBad)
		wantFiles(t, d, "other", "x")
		wantBlocks(t, "List", s.List())
		wantRead(t, s, one, "", api.ErrGone)
		want(t, "Write", s.Write(one, data), api.OK)
		wantRead(t, s, one, data, api.OK)
	}
}

// P14.3: a file that isn't good, or isn't there, is seen once.
func TestReadOfBadFiles(t *testing.T) {
	for what, file := range badFiles(one) {
		d := disk.New(roomy)
		s := opened(t, d)
		want(t, "Write", s.Write(one, long(130)), api.OK)
		replace(t, d, name(one), file)
		if data, e := s.Read(one); data != "" || e != api.ErrBad {
			t.Errorf("%s: %q %d", what, data, e)
		}
		wantFiles(t, d)
		wantRead(t, s, one, "", api.ErrGone)
	}
	d := disk.New(roomy)
	s := opened(t, d)
	want(t, "Write", s.Write(one, "abc"), api.OK)
	want(t, "Delete", d.Delete(name(one)), api.OK)
	wantRead(t, s, one, "", api.ErrBad)
	wantFiles(t, d)
	wantRead(t, s, one, "", api.ErrGone)
}

// P14.3: a good replica of other data is one all the same.
func TestReadOfAnotherGoodFile(t *testing.T) {
	d := disk.New(roomy)
	s := opened(t, d)
	want(t, "Write", s.Write(one, "abc"), api.OK)
	replace(t, d, name(one), replica(one, "other"))
	wantRead(t, s, one, "other", api.OK)
	want(t, "Write", s.Write(one, "abc"), api.ErrThere)
	want(t, "Write", s.Write(one, "other"), api.OK)
}

// P14.3: what the store doesn't know is gone, whatever lies on the disk.
func TestUnknown(t *testing.T) {
	d := disk.New(roomy)
	s := opened(t, d)
	want(t, "Append", d.Append(name(one), replica(one, "abc")), api.OK)
	wantRead(t, s, one, "", api.ErrGone)
	want(t, "Drop", s.Drop(one), api.ErrGone)
	wantBlocks(t, "List", s.List())
	if d.Pending() != 1 {
		t.Error("something has changed")
	}
	for _, b := range badNames() {
		wantRead(t, s, b, "", api.ErrGone)
		want(t, "Drop", s.Drop(b), api.ErrGone)
	}
	opened(t, d, one)
}

// P14.3
func TestDrop(t *testing.T) {
	d := disk.New(roomy)
	s := opened(t, d)
	two := api.Block{Client: 1, Call: 2, Try: 1}
	want(t, "Write", s.Write(one, "abc"), api.OK)
	want(t, "Write", s.Write(two, "def"), api.OK)
	want(t, "Drop", s.Drop(one), api.OK)
	wantFiles(t, d, name(two), replica(two, "def"))
	wantBlocks(t, "List", s.List(), two)
	want(t, "Drop again", s.Drop(one), api.ErrGone)
	wantRead(t, s, one, "", api.ErrGone)
	flip(t, d, name(two), 9)
	want(t, "Drop of a bad one", s.Drop(two), api.OK)
	wantFiles(t, d)

	want(t, "Write", s.Write(one, "again"), api.OK)
	want(t, "Delete", d.Delete(name(one)), api.OK)
	want(t, "Drop where no file is", s.Drop(one), api.OK)
	wantFiles(t, d)
	wantBlocks(t, "List", s.List())
}

// P14.4: by Client, then Call, then Try, as numbers.
func TestList(t *testing.T) {
	var rising []api.Block
	for _, client := range []int{0, 2, 10, api.MaxTime} {
		for _, call := range []int{1, 9, 11} {
			for _, try := range []int{0, 3, 20} {
				rising = append(rising, api.Block{Client: client, Call: call, Try: try})
			}
		}
	}
	for seed := range int64(10) {
		d := disk.New(roomy)
		s := opened(t, d)
		for _, i := range rand.New(rand.NewSource(seed)).Perm(len(rising)) {
			want(t, "Write", s.Write(rising[i], "abc"), api.OK)
		}
		wantBlocks(t, "List", s.List(), rising...)
		s.List()[0] = api.Block{Client: 5, Call: 5, Try: 5}
		wantBlocks(t, "List", s.List(), rising...)
		opened(t, d, rising...)
	}
}

// P14.4
func TestScrub(t *testing.T) {
	d := disk.New(roomy)
	s := opened(t, d)
	var all []api.Block
	for i := range 12 {
		all = append(all, api.Block{Client: i / 6, Call: i / 3 % 2 * 10, Try: i % 3})
		want(t, "Write", s.Write(all[i], long(100+i)), api.OK)
	}
	wantBlocks(t, "all are good", s.Scrub())
	wantBlocks(t, "List", s.List(), all...)
	flip(t, d, name(all[10]), 8*len(replica(all[10], long(110)))-1)
	flip(t, d, name(all[1]), 0)
	replace(t, d, name(all[7]), replica(all[8], long(108)))
	want(t, "Delete", d.Delete(name(all[3])), api.OK)
	want(t, "Append", d.Append("other", "x"), api.OK)
	wantBlocks(t, "Scrub", s.Scrub(), all[1], all[3], all[7], all[10])
	good := slices.DeleteFunc(slices.Clone(all), func(b api.Block) bool { return slices.Contains([]api.Block{all[1], all[3], all[7], all[10]}, b) })
	wantBlocks(t, "List", s.List(), good...)
	files := []string{"other", "x"}
	for _, b := range good {
		files = append(files, name(b), replica(b, long(100+slices.Index(all, b))))
	}
	wantFiles(t, d, files...)
	wantBlocks(t, "Scrub again", s.Scrub())
	wantRead(t, s, all[1], "", api.ErrGone)
	wantRead(t, s, all[0], long(100), api.OK)
}

// P14.4: whatever is wrong with a file; and it syncs, also where all is right.
func TestScrubOfBadFiles(t *testing.T) {
	d := disk.New(roomy)
	s := opened(t, d)
	for what, file := range badFiles(one) {
		want(t, "Write", s.Write(one, long(130)), api.OK)
		replace(t, d, name(one), file)
		wantBlocks(t, what, s.Scrub(), one)
		wantFiles(t, d)
		wantRead(t, s, one, "", api.ErrGone)
	}
	want(t, "Append", d.Append("other", "x"), api.OK)
	wantBlocks(t, "Scrub of nothing", s.Scrub())
	wantFiles(t, d, "other", "x")
}

// What lies beside the replicas isn't touched, not even a file whose name is nearly one.
func TestOthersAreLeftAlone(t *testing.T) {
	files := []string{"new-", "x", "blk-1-2", replica(one, "abc"), "blk-01-2-0", "y"}
	d := laid(t, files...)
	s := opened(t, d)
	want(t, "Write", s.Write(one, "abc"), api.OK)
	wantBlocks(t, "Scrub", s.Scrub())
	wantFiles(t, d, append(files, name(one), replica(one, "abc"))...)
	want(t, "Drop", s.Drop(one), api.OK)
	wantFiles(t, d, files...)
}

// P14.5
func TestNil(t *testing.T) {
	var s *store.Store
	want(t, "Write", s.Write(one, "abc"), api.ErrArg)
	want(t, "Write of nothing", s.Write(api.Block{Client: -1}, strings.Repeat("x", api.MaxBlock+1)), api.ErrArg)
	want(t, "Drop", s.Drop(one), api.ErrArg)
	wantRead(t, s, one, "", api.ErrGone)
	wantBlocks(t, "List", s.List())
	wantBlocks(t, "Scrub", s.Scrub())
}
