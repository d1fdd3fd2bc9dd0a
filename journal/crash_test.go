package journal_test

import (
	"math/rand"
	"slices"
	"strconv"
	"testing"

	"mahout/api"
	"mahout/disk"
	"mahout/journal"
)

// model is a journal as the words tell it: an image, the records behind it, and how many of them last.
type model struct {
	image   string
	records []string
	lasting int
}

// crash: of the records that don't last as many are left as the crash has kept whole.
func (m *model) crash(keep, tear int) {
	for _, record := range m.records[m.lasting:] {
		if keep == 0 {
			if tear >= len(frames(record)) {
				m.lasting++
			}
			break
		}
		m.lasting++
		keep--
	}
	m.records = m.records[:m.lasting]
}

// step does one call on both, or a crash.
func step(t *testing.T, r *rand.Rand, d *disk.Disk, j *journal.Journal, m *model) *journal.Journal {
	t.Helper()
	body := strconv.Itoa(r.Intn(1 << r.Intn(30)))
	switch r.Intn(10) {
	case 0, 1, 2, 3, 4:
		want(t, "Append", j.Append(body), api.OK)
		m.records = append(m.records, body)
	case 5:
		j.Sync()
		m.lasting = len(m.records)
	case 6:
		if r.Intn(3) == 0 {
			want(t, "Roll", j.Roll(body), api.OK)
			*m = model{image: body}
		}
	case 7, 8:
		keep, tear := r.Intn(5), r.Intn(30)
		d.Crash(keep, tear)
		m.crash(keep, tear)
		return opened(t, "behind a crash", d, m.image, m.records...)
	case 9:
		m.lasting = len(m.records)
		return opened(t, "without a crash", d, m.image, m.records...)
	}
	wantCount(t, "a step", j, len(m.records), m.lasting)
	return j
}

// P10.5: any calls and crashes, one behind the other.
func TestAnyCrashes(t *testing.T) {
	for seed := range int64(300) {
		r := rand.New(rand.NewSource(seed))
		d, m := disk.New(roomy), &model{}
		j := opened(t, "an empty disk", d, "")
		for range 200 {
			j = step(t, r, d, j, m)
			if t.Failed() {
				t.Fatalf("seed %d", seed)
			}
		}
	}
}

// steps are what is done to a disk, one behind the other.
type steps []func(d *disk.Disk)

func put(name, data string) func(d *disk.Disk) {
	return func(d *disk.Disk) { d.Append(name, data) }
}

func rename(from, to string) func(d *disk.Disk) {
	return func(d *disk.Disk) { d.Rename(from, to) }
}

func remove(name string) func(d *disk.Disk) {
	return func(d *disk.Disk) { d.Delete(name) }
}

func sync(d *disk.Disk) { d.Sync() }

// cutShort is a disk on which only the first n steps were done, and then a crash came.
func (s steps) cutShort(n, keep, tear int) *disk.Disk {
	d := disk.New(roomy)
	for _, do := range s[:n] {
		do(d)
	}
	d.Crash(keep, tear)
	return d
}

// everywhere goes through all crashes at all moments.
func (s steps) everywhere(look func(done int, d *disk.Disk)) {
	for n := range len(s) + 1 {
		for keep := range 4 {
			for tear := range 40 {
				look(n, s.cutShort(n, keep, tear))
			}
		}
	}
}

// P10.5: a crash within Roll leaves the old image with its records, or the new one alone.
func TestCrashWithinRoll(t *testing.T) {
	laid := steps{put("image-1", frames("old")), put("edits-1-2", frames("a", "b")), sync, put("edits-1-2", frames("c"))}
	roll := steps{put("tmp", frames("new")), sync, rename("tmp", "image-2"), sync, remove("edits-1-2"), remove("image-1"), sync}
	all := append(laid, roll...)
	olds, news := 0, 0
	all.everywhere(func(done int, d *disk.Disk) {
		if done < len(laid) {
			return
		}
		j, found, e := journal.Open(d)
		if j == nil || e != api.OK {
			t.Fatalf("behind %d steps: Open: %d", done, e)
		}
		switch found.Image {
		case "old":
			olds++
			synced := done >= len(laid)+2
			if !slices.Equal(found.Records, []string{"a", "b", "c"}) && (synced || !slices.Equal(found.Records, []string{"a", "b"})) {
				t.Errorf("behind %d steps: found %q", done, found.Records)
			}
		case "new":
			news++
			wantLasting(t, "the new image", d, "image-2", frames("new"))
		default:
			t.Errorf("behind %d steps: found %q", done, found.Image)
		}
		again := opened(t, "Open again", d, found.Image, found.Records...)
		want(t, "Append", again.Append("more"), api.OK)
		opened(t, "and more", d, found.Image, append(found.Records, "more")...)
	})
	if olds == 0 || news == 0 {
		t.Errorf("%d old images, %d new ones", olds, news)
	}
}

// P10.5: a crash while Open cuts a torn end leaves all the good beginning, however often.
func TestCrashWithinOpen(t *testing.T) {
	good := frames("a", "b")
	laid := steps{put("image-1", frames("i")), put("edits-1-0", good+"torn"), put("image-0", "older"), put("edits-1-5", "other"), remove("edits-1-5"), put("tmp", "left over"), sync}
	cut := steps{remove("tmp"), put("tmp", good), sync, rename("tmp", "edits-1-1"), sync, remove("edits-1-0"), remove("image-0"), sync}
	all := append(laid, cut...)
	copies := map[string]int{}
	all.everywhere(func(done int, d *disk.Disk) {
		if done < len(laid) {
			return
		}
		opened(t, "Open", d, "i", "a", "b")
		name := d.List()[0]
		copies[name]++
		wantLasting(t, "Open", d, "image-1", frames("i"), name, good)
	})
	if len(copies) != 1 || copies["edits-1-1"] == 0 {
		t.Errorf("copies: %v", copies)
	}
}

// P10.5: many crashes, each while the first record behind the last one is written.
func TestCrashesOverAndOver(t *testing.T) {
	d := disk.New(roomy)
	var lasting []string
	for i := range 30 {
		j := opened(t, "Open", d, "", lasting...)
		lasting = append(lasting, strconv.Itoa(i))
		want(t, "Append", j.Append(strconv.Itoa(i)), api.OK)
		j.Sync()
		want(t, "Append", j.Append("lost"), api.OK)
		d.Crash(0, i)
		if i >= len(frames("lost")) {
			lasting = append(lasting, "lost")
		}
	}
}
