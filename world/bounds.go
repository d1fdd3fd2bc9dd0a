package world

import "mahout/api"

// bounds are a script's numbers, cut to their limits.
type bounds struct {
	nodes, replicas int
	block, room     int
	rounds          int
	flips           bool
}

func cut(n, low, high int) int {
	return min(max(n, low), high)
}

func boundsOf(s Script) bounds {
	nodes := cut(s.Nodes, 1, api.MaxData)
	return bounds{
		nodes:    nodes,
		replicas: cut(s.Replicas, 1, nodes),
		block:    cut(s.Block, 1, api.MaxBlock),
		room:     cut(s.Room, 0, api.MaxRoom),
		rounds:   cut(s.Rounds, 0, api.MaxRounds),
		flips:    s.Flips,
	}
}

// actsOf: what each of the clients does that there may be.
func actsOf(s Script) [][]Act {
	return s.Acts[:min(len(s.Acts), api.MaxClients)]
}

// Lengths of time, in ticks of the clock. In a round that nothing disturbs an answer comes two ticks behind its question.
const (
	askAgain    = 4  // an answer that hasn't come is asked for again
	giveUp      = 40 // a call is given up
	pollAgain   = 8  // a worker that has nothing to do asks again
	dataWait    = 6  // a data node is asked for so long, then another one
	shortWait   = 12 // what one job waits for while others may have to wait too
	longWait    = 40 // what one act, or one task, waits for
	shortPause  = 2
	leaseLength = 60 // a file is closed whose holder wasn't heard of
	beatEvery   = 3  // a data node tells what it holds
	life        = 12 // a data node is taken for gone
	orderEvery  = 4
	slowAfter   = 60 // a task is tried twice at a time
)

// Numbers of other things.
const (
	rollEvery   = 24      // records, then an image takes their place
	maxFull     = 4       // attempts of one task that find no room
	mostTorn    = 128     // bytes of an append that a crash tears
	mostPairs   = 1 << 16 // bytes of pairs in one letter
	pairAround  = 6       // bytes around a pair's texts in a letter
	longestPair = 1 << 19 // bytes of a pair that a letter can have
)
