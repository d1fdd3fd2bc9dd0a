package world

import (
	"slices"

	"mahout/api"
	"mahout/crc"
	"mahout/record"
	"mahout/tree"
	"mahout/where"
)

// place: the data nodes where a new block should go; false, where no answer came.
func (a *agent) place(avoid []int) ([]int, bool) {
	m := record.Message{Kind: record.Place, N: append([]int{a.number}, avoid...)}
	answer := a.gather(giveUp, request{headNode, m})[0]
	if answer.Kind != record.Spots {
		return nil, false
	}
	return answer.N[1:], true
}

// put lays a block with this data on data nodes; it is synced on at least one, where the code is OK. False, where the call was given up.
//
// The block has the number of a call that was begun behind all changes made so far: so nobody can take it for one that is over, and drop it, ahead of the Add that it is for.
func (a *agent) put(data string) (api.Piece, api.Errno, bool) {
	block := api.Block{Client: a.number, Call: a.begin()}
	var avoid []int
	full := false
	for end := a.w.now + longWait; ; block.Try++ {
		nodes, heard := a.place(avoid)
		if !heard {
			return api.Piece{}, api.OK, false
		}
		codes := a.lay(block, data, nodes)
		if slices.Contains(codes, api.OK) {
			return api.Piece{Block: block, Size: len(data), Sum: crc.Sum(data)}, api.OK, true
		}
		full = full || slices.Contains(codes, api.ErrFull)
		switch {
		case len(nodes) > 0:
			avoid = append(avoid, nodes...)
		case full:
			return api.Piece{}, api.ErrFull, true
		case a.w.now >= end:
			return api.Piece{}, api.ErrUnavailable, true
		default: // those that were avoided may be there again
			avoid = nil
			a.pause(shortPause)
		}
	}
}

// lay has nodes store a block; what each of them says.
func (a *agent) lay(block api.Block, data string, nodes []int) []api.Errno {
	a.w.texts[block] = text{data}
	var requests []request
	for _, node := range nodes {
		requests = append(requests, request{node, storeOf(block, data)})
	}
	codes := make([]api.Errno, len(nodes))
	for i, answer := range a.gather(dataWait, requests...) {
		codes[i] = api.ErrUnavailable
		if answer.Kind == record.Stored {
			codes[i] = api.Errno(answer.N[0])
		}
	}
	return codes
}

// storeOf: the message by which a node is to store a block.
func storeOf(block api.Block, data string) record.Message {
	return record.Message{Kind: record.Store, N: []int{block.Client, block.Call, block.Try, int(crc.Sum(data))}, T: []string{data}}
}

// write makes a closed file of a text. The first code that isn't OK ends it; false, where a call was given up.
func (a *agent) write(path, data string) (api.Errno, bool) {
	if len(data) > api.MaxBlock*api.MaxBlocks {
		return api.ErrLong, true
	}
	t, heard := a.change(tree.Op{Kind: tree.Create, Path: path})
	for ; heard && t.code == api.OK && data != ""; data = data[min(len(data), api.MaxBlock):] {
		piece, code, stored := a.put(data[:min(len(data), api.MaxBlock)])
		if !stored || code != api.OK {
			return code, stored
		}
		t, heard = a.change(tree.Op{Kind: tree.Add, Path: path, Piece: piece})
	}
	if !heard || t.code != api.OK {
		return t.code, heard
	}
	t, heard = a.change(tree.Op{Kind: tree.Close, Path: path})
	return t.code, heard
}

// find: of each piece the data nodes that hold it, the nearest first; nobody holds any, where no answer came.
func (a *agent) find(pieces []api.Piece) [][]int {
	holders := make([][]int, len(pieces))
	if len(pieces) == 0 {
		return holders
	}
	m := record.Message{Kind: record.Find}
	for _, p := range pieces {
		m.N = append(m.N, p.Block.Client, p.Block.Call, p.Block.Try)
	}
	answer := a.gather(shortWait, request{headNode, m})[0]
	n := answer.N
	for i := 0; i < len(holders) && len(n) > 0 && len(n) > n[0]; i++ {
		holders[i] = a.nearest(n[1 : 1+n[0]])
		n = n[1+n[0]:]
	}
	return holders
}

// nearest: the same nodes, the nearest first.
func (a *agent) nearest(nodes []int) []int {
	places := make([]complex128, len(nodes))
	for i, node := range nodes {
		places[i] = spotOf(node)
	}
	var list []int
	for _, i := range where.Near(spotOf(a.number), places) {
		list = append(list, nodes[i])
	}
	return list
}

// fetch: the bytes of pieces, from data nodes that hold them; false, where they aren't all to be had in this time.
func (a *agent) fetch(within int, pieces []api.Piece) ([]string, bool) {
	texts := make([]string, len(pieces))
	if a.own != nil {
		for i, p := range pieces {
			if data := a.own(p.Block); fits(data, p) {
				texts[i] = data
			}
		}
	}
	end := a.w.now + within
	for {
		missing := missingOf(pieces, texts)
		if len(missing) == 0 {
			return texts, true
		}
		if a.fetchSome(pieces, texts, missing) {
			continue
		}
		a.misses++
		if a.w.now >= end {
			return nil, false
		}
	}
}

// missingOf: the numbers of the pieces whose texts aren't there. (No piece is empty.)
func missingOf(pieces []api.Piece, texts []string) []int {
	var missing []int
	for i := range pieces {
		if texts[i] == "" {
			missing = append(missing, i)
		}
	}
	return missing
}

// fetchSome asks once for the texts that are missing; are they all here now? Whoever was asked in vain isn't asked next time, if there are others.
func (a *agent) fetchSome(pieces []api.Piece, texts []string, missing []int) bool {
	var wanted []api.Piece
	for _, i := range missing {
		wanted = append(wanted, pieces[i])
	}
	var requests []request
	var of []int // the piece for which each of the requests asks
	for k, holders := range a.find(wanted) {
		if len(holders) > 0 {
			b := wanted[k].Block
			m := record.Message{Kind: record.Fetch, N: []int{b.Client, b.Call, b.Try}}
			requests = append(requests, request{holders[a.misses%len(holders)], m})
			of = append(of, missing[k])
		}
	}
	if len(requests) == 0 {
		a.pause(shortPause)
	}
	for k, answer := range a.gather(dataWait, requests...) {
		if i := of[k]; answer.Kind == record.Data && fits(answer.T[0], pieces[i]) {
			texts[i] = answer.T[0]
		}
	}
	return len(missingOf(pieces, texts)) == 0
}

// fits: has a text a piece's length and checksum?
func fits(data string, p api.Piece) bool {
	return len(data) == p.Size && crc.Sum(data) == p.Sum
}
