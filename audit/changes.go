package audit

import (
	"mahout/api"
	"mahout/crc"
	"mahout/tree"
)

// checkChanges: the first of the changes that can't have been made, or not by then.
func checkChanges(changes []Change) Verdict {
	m := newModel(changes)
	for i, c := range changes {
		if i > 0 && c.Step < changes[i-1].Step {
			return Verdict{i, wrongOrder}
		}
		if !hasItsData(c) || m.step() != api.OK {
			return Verdict{i, wrongChange}
		}
	}
	return Verdict{}
}

// hasItsData: does a change come with the bytes that its piece tells of, or with none, where there is no piece?
func hasItsData(c Change) bool {
	if c.Op.Kind != tree.Add {
		return c.Data == ""
	}
	return c.Op.Piece.Size == len(c.Data) && c.Op.Piece.Sum == crc.Sum(c.Data)
}
