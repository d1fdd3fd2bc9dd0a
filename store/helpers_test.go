package store_test

import (
	"encoding/binary"
	"fmt"
	"hash/crc32"
	"slices"
	"strings"
	"testing"

	"mahout/api"
	"mahout/disk"
	"mahout/store"
)

// roomy is more than any test writes.
const roomy = 1 << 20

func want(t *testing.T, what string, got, errno api.Errno) {
	t.Helper()
	if got != errno {
		t.Errorf("%s: %d, not %d", what, got, errno)
	}
}

func wantRead(t *testing.T, s *store.Store, b api.Block, data string, errno api.Errno) {
	t.Helper()
	if got, e := s.Read(b); got != data || e != errno {
		t.Errorf("Read(%v): %.20q %d, not %.20q %d", b, got, e, data, errno)
	}
}

func wantBlocks(t *testing.T, what string, got []api.Block, blocks ...api.Block) {
	t.Helper()
	if !slices.Equal(got, blocks) {
		t.Errorf("%s: %v, not %v", what, got, blocks)
	}
}

// wantFiles: does the disk hold just these files (a name, its bytes, a name ..), and do all of them last?
func wantFiles(t *testing.T, d *disk.Disk, files ...string) {
	t.Helper()
	if d.Pending() != 0 {
		t.Errorf("%d changes don't last", d.Pending())
	}
	var names []string
	for i := 0; i < len(files); i += 2 {
		names = append(names, files[i])
		if got, e := d.Read(files[i]); got != files[i+1] || e != api.OK {
			t.Errorf("file %q: %.40q %d, not %.40q", files[i], got, e, files[i+1])
		}
	}
	slices.Sort(names)
	if got := d.List(); !slices.Equal(got, names) {
		t.Errorf("files %q, not %q", got, names)
	}
}

// laid is a disk on which these files last (a name, its bytes, a name ..).
func laid(t *testing.T, files ...string) *disk.Disk {
	t.Helper()
	d := disk.New(roomy)
	for i := 0; i < len(files); i += 2 {
		want(t, "Append", d.Append(files[i], files[i+1]), api.OK)
	}
	d.Sync()
	return d
}

func opened(t *testing.T, d *disk.Disk, known ...api.Block) *store.Store {
	t.Helper()
	s, e := store.Open(d)
	if s == nil || e != api.OK {
		t.Fatalf("Open: %d", e)
	}
	wantBlocks(t, "List behind Open", s.List(), known...)
	return s
}

// replace lays other bytes in a file by hand.
func replace(t *testing.T, d *disk.Disk, name, bytes string) {
	t.Helper()
	want(t, "Delete", d.Delete(name), api.OK)
	want(t, "Append", d.Append(name, bytes), api.OK)
	d.Sync()
}

func flip(t *testing.T, d *disk.Disk, name string, bit int) {
	t.Helper()
	want(t, "Flip", d.Flip(name, bit), api.OK)
}

// What follows says the form of a file once more, by the library's own means.

func sum(s string) uint32 {
	return crc32.Checksum([]byte(s), crc32.MakeTable(crc32.Castagnoli))
}

func four(n uint32) string {
	return string(binary.LittleEndian.AppendUint32(nil, n))
}

func frame(body string) string {
	length := four(uint32(len(body)))
	return length + four(sum(length)) + body + four(sum(body))
}

func numbers(list ...int) string {
	var b []byte
	for _, n := range list {
		b = binary.AppendVarint(b, int64(n))
	}
	return string(b)
}

// head: what stands in the first frame, where the chunks have size bytes.
func head(b api.Block, data string, size int) string {
	list := []int{b.Client, b.Call, b.Try, len(data)}
	for rest := data; rest != ""; rest = rest[min(size, len(rest)):] {
		list = append(list, int(sum(rest[:min(size, len(rest))])))
	}
	return numbers(list...)
}

func replica(b api.Block, data string) string {
	return frame(head(b, data, 64)) + frame(data)
}

func name(b api.Block) string {
	return fmt.Sprintf("blk-%d-%d-%d", b.Client, b.Call, b.Try)
}

// long is a text of n bytes, of which no two chunks are alike.
func long(n int) string {
	var b strings.Builder
	for i := 0; b.Len() < n; i++ {
		fmt.Fprintf(&b, "%d ", i)
	}
	return b.String()[:n]
}

// goodNames, and names that no replica has.
func goodNames() []api.Block {
	return []api.Block{
		{Client: 0, Call: 0, Try: 0}, {Client: 1, Call: 2, Try: 0}, {Client: 12, Call: 345, Try: 6789},
		{Client: api.MaxTime, Call: 1, Try: 1}, {Client: 1, Call: api.MaxTime, Try: 1}, {Client: 1, Call: 1, Try: api.MaxTime},
		{Client: api.MaxTime, Call: api.MaxTime, Try: api.MaxTime},
	}
}

func badNames() []api.Block {
	var all []api.Block
	for _, n := range []int{-1, -1 << 63, api.MaxTime + 1, 1<<63 - 1} {
		all = append(all, api.Block{Client: n, Call: 1, Try: 1}, api.Block{Client: 1, Call: n, Try: 1}, api.Block{Client: 1, Call: 1, Try: n})
	}
	return all
}

// badFiles are the bytes of files that aren't good replicas of b, though most of them are nearly so.
func badFiles(b api.Block) map[string]string {
	data := long(130)
	good := replica(b, data)
	other := api.Block{Client: b.Client, Call: b.Call, Try: b.Try + 1}
	sums := strings.TrimPrefix(head(b, data, 64), numbers(b.Client, b.Call, b.Try, len(data)))
	return map[string]string{
		"empty":                        "",
		"no frame":                     "abc",
		"the first frame alone":        frame(head(b, data, 64)),
		"the data's frame alone":       frame(data),
		"torn in the first frame":      good[:9],
		"torn in the data":             good[:len(good)-5],
		"a byte short":                 good[:len(good)-1],
		"a byte more":                  good + "x",
		"a frame more":                 good + frame(""),
		"twice":                        good + good,
		"the frames exchanged":         frame(data) + frame(head(b, data, 64)),
		"another block's":              replica(other, data),
		"no data":                      replica(b, ""),
		"too much data":                replica(b, long(api.MaxBlock+1)),
		"other chunks":                 frame(head(b, data, 65)) + frame(data),
		"smaller chunks":               frame(head(b, data, 32)) + frame(data),
		"a checksum less":              frame(head(b, data[:64], 64)) + frame(data),
		"no checksums":                 frame(numbers(b.Client, b.Call, b.Try, len(data))) + frame(data),
		"a checksum more":              frame(head(b, data, 64)+numbers(0)) + frame(data),
		"a wrong checksum":             frame(head(b, data[:129]+"y", 64)) + frame(data),
		"a wrong first chunk":          frame(head(b, "y"+data[1:], 64)) + frame(data),
		"checksums in another order":   frame(head(b, data[64:128]+data[:64]+data[128:], 64)) + frame(data),
		"a wrong length":               frame(numbers(b.Client, b.Call, b.Try, len(data)+1)+sums) + frame(data),
		"a number in more bytes":       frame(numbers(b.Client, b.Call, b.Try, 1)+longer(int(sum("a")))) + frame("a"),
		"the data's sum a number less": frame(head(b, data, 64)) + good[len(good)-len(frame(data)):len(good)-4] + four(sum(data)-1),
	}
}

// longer: a number in one byte more than it needs.
func longer(n int) string {
	s := numbers(n)
	return s[:len(s)-1] + string([]byte{s[len(s)-1] | 0x80, 0})
}
