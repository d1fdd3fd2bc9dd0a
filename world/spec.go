package world

import (
	"mahout/api"
	"mahout/local"
	"mahout/paths"
	"mahout/wire"
)

// specOf: a job as bytes.
//
// What is too long for a program, or a path, is cut so that it still is: it counts as the same, and a spec is short.
func specOf(j Job) string {
	var p wire.Pack
	p.Text(j.Program[:min(len(j.Program), api.MaxCode+1)])
	p.Text(pathOrNone(j.Output))
	p.Int(j.Parts)
	p.Int(j.Split)
	p.Int(j.Spill)
	p.Int(len(j.Inputs))
	for _, path := range j.Inputs {
		p.Text(pathOrNone(path))
	}
	return p.Bytes()
}

// jobOf: the job that bytes are; false, where they are none.
func jobOf(s string) (Job, bool) {
	u := wire.Open(s)
	j := Job{Program: u.Text(), Output: u.Text(), Parts: u.Int(), Split: u.Int(), Spill: u.Int()}
	inputs := u.Int()
	if inputs < 0 || inputs > len(s) { // each has a byte at least
		return Job{}, false
	}
	for range inputs {
		j.Inputs = append(j.Inputs, u.Text())
	}
	return j, u.End() == api.OK
}

// isRight: may the job be done at all?
func (j Job) isRight() bool {
	_, err := local.Check(local.Job{Program: j.Program, Parts: j.Parts, Split: j.Split, Spill: j.Spill})
	return err == api.OK
}

// hasPaths: are all its inputs paths?
func (j Job) hasPaths() bool {
	for _, path := range j.Inputs {
		if paths.Check(path) != api.OK {
			return false
		}
	}
	return true
}
