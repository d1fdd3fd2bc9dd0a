package journal

import (
	"mahout/api"
	"mahout/disk"
	"mahout/wire"
)

// Found is what a journal held when it was opened.
type Found struct {
	Image   string
	Records []string
}

// Open: the journal that lies on a disk.
func Open(d *disk.Disk) (*Journal, Found, api.Errno) {
	if d == nil {
		return nil, Found{}, api.ErrArg
	}
	j := newest(d)
	image, err := j.readImage()
	if err != api.OK {
		return nil, Found{}, err
	}
	edits, _ := d.Read(j.edits()) // where there is no such file there are no records
	records, end, err := wire.All(edits)
	if err == api.ErrTorn {
		err = j.keep(edits[:end])
	}
	if err != api.OK {
		return nil, Found{}, err
	}
	j.sweep()
	j.count, j.lasting = len(records), len(records)
	return j, Found{image, records}, api.OK
}

// newest: the journal of the greatest segment that has an image, with the greatest copy of its records.
func newest(d *disk.Disk) *Journal {
	j := &Journal{disk: d}
	names := d.List()
	for _, name := range names {
		if segment, ok := imageOf(name); ok {
			j.segment = max(j.segment, segment)
		}
	}
	for _, name := range names {
		if segment, nth, ok := editsOf(name); ok && segment == j.segment {
			j.nth = max(j.nth, nth)
		}
	}
	return j
}

// readImage: what the image holds; nothing, where there is none.
func (j *Journal) readImage() (string, api.Errno) {
	s, err := j.disk.Read(j.image())
	if err == api.ErrMissing {
		return "", api.OK
	}
	bodies, _, err := wire.All(s)
	// An image was synced ahead of its name, so a torn one was changed too.
	if err != api.OK || len(bodies) != 1 {
		return "", api.ErrCorrupt
	}
	return bodies[0], api.OK
}

// keep lays the good beginning of the records as a copy of its own: behind a torn end nothing could be appended. The torn copy is left over then.
func (j *Journal) keep(good string) api.Errno {
	j.disk.Delete(tmp)
	if err := j.lay(editsName(j.segment, j.nth+1), good); err != api.OK {
		j.disk.Sync()
		return err
	}
	j.nth++
	return api.OK
}

// sweep deletes what was left over when a crash came between, and makes all last.
func (j *Journal) sweep() {
	for _, name := range j.disk.List() {
		if j.isLeftOver(name) {
			j.disk.Delete(name)
		}
	}
	j.disk.Sync()
}

// isLeftOver: is it a file of a journal that doesn't count any more?
func (j *Journal) isLeftOver(name string) bool {
	_, isImage := imageOf(name)
	_, _, isEdits := editsOf(name)
	return name == tmp || isImage && name != j.image() || isEdits && name != j.edits()
}
