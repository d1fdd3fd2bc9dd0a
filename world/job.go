package world

import (
	"slices"
	"strings"

	"mahout/api"
	"mahout/attempts"
	"mahout/record"
	"mahout/splits"
	"mahout/tree"
)

// job is a job that runs. How far it is stands in its directory; the rest can be found out again.
type job struct {
	m     *master
	name  string
	names []string // what stands in its directory
	spec  info

	loaded bool // is the spec read?
	right  bool // may it be done?
	Job

	board   *attempts.Board // nil: no task may begin yet
	maps    []mapOf
	left    []int   // the parts that no earlier boot has finished, in the order of the reduces
	moved   int     // how many of these stand in `out`
	tickets [][]int // of each task those of its attempts
}

// mapOf is what a map goes over: a split of a file, and where its pieces are.
type mapOf struct {
	pieces []api.Piece
	split  splits.Split
	near   []complex128
}

func (j *job) path(name string) string {
	return below(jobDirectory(j.name), name)
}

// advance does what can be done for the job now.
func (j *job) advance() {
	switch {
	case slices.Contains(j.names, readyName):
		j.publish()
	case j.board != nil:
		j.collect()
	case j.load():
		j.prepare()
	}
}

// load reads the spec; false, where it isn't to be had now.
func (j *job) load() bool {
	if j.loaded {
		return true
	}
	if !j.spec.isClosedFile() {
		j.loaded = true // and it isn't right
		return true
	}
	texts, read := j.m.fetch(shortWait, j.spec.pieces)
	if !read {
		return false
	}
	j.loaded = true
	j.Job, j.right = jobOf(strings.Join(texts, ""))
	j.right = j.right && j.isRight()
	return true
}

// prepare looks what there is to do, and has it begin.
func (j *job) prepare() {
	code, known := j.plan()
	switch {
	case !known:
		return
	case code != api.OK:
		j.conclude(failedName(code))
		return
	case !j.make(workName):
		return
	}
	there, known := j.finished()
	if !known {
		return
	}
	j.left, j.moved = nil, 0
	for part := range j.Parts {
		if !slices.Contains(there, partName(part)) {
			j.left = append(j.left, part)
		}
	}
	j.tickets = make([][]int, len(j.maps)+len(j.left))
	j.board = attempts.New(len(j.maps), len(j.left), maxFull, slowAfter)
}

// plan: the maps that there are to do, or why the job can't be done; false, where that isn't known yet.
func (j *job) plan() (api.Errno, bool) {
	if !j.right {
		return api.ErrProgram, true
	}
	if !j.hasPaths() {
		return api.ErrInput, true
	}
	var requests []request
	for _, path := range j.Inputs {
		requests = append(requests, request{headNode, lookAt(path)})
	}
	var maps []mapOf
	for _, answer := range j.m.gather(shortWait, requests...) {
		t, is := toldBy(answer)
		file := infoOf(t)
		switch {
		case !is:
			return api.OK, false
		case !file.isClosedFile():
			return api.ErrInput, true
		}
		for _, s := range splits.Plan(sizeOf(file.pieces), j.Split) {
			maps = append(maps, mapOf{pieces: file.pieces, split: s})
		}
	}
	if len(maps) > api.MaxTasks {
		return api.ErrResource, true
	}
	j.maps = maps
	j.locate()
	return api.OK, true
}

// locate finds out where the maps' pieces are: there the maps should go.
func (j *job) locate() {
	var wanted []api.Piece
	for _, m := range j.maps {
		wanted = append(wanted, m.wanted()...)
	}
	holders := j.m.find(wanted)
	for i := range j.maps {
		n := len(j.maps[i].wanted())
		j.maps[i].near = placesOf(slices.Concat(holders[:n]...))
		holders = holders[n:]
	}
}

// wanted: the pieces that have bytes of the split.
func (m mapOf) wanted() []api.Piece {
	first, behind := splits.Blocks(sizesOf(m.pieces), m.split)
	return m.pieces[first:behind]
}

// placesOf: where nodes stand, each once.
func placesOf(nodes []int) []complex128 {
	slices.Sort(nodes)
	var places []complex128
	for _, node := range slices.Compact(nodes) {
		places = append(places, spotOf(node))
	}
	return places
}

// make makes a directory in the job's; false, where it isn't there now.
func (j *job) make(name string) bool {
	if slices.Contains(j.names, name) {
		return true
	}
	t, heard := j.m.change(tree.Op{Kind: tree.Mkdir, Path: j.path(name)})
	return heard && (t.code == api.OK || t.code == api.ErrExists)
}

// finished makes `out`, where it isn't there; the names of what an earlier boot has put into it.
func (j *job) finished() ([]string, bool) {
	if !slices.Contains(j.names, outName) {
		t, heard := j.m.change(tree.Op{Kind: tree.Mkdir, Path: j.path(outName)})
		if !heard || t.code == api.OK {
			return nil, heard
		}
	}
	t, heard := j.m.query(namesIn(j.path(outName)))
	return t.names, heard && t.code == api.OK
}

// rename renames something in the job's directory; false, where it was given up.
func (j *job) rename(from, to string) (api.Errno, bool) {
	t, heard := j.m.change(tree.Op{Kind: tree.Rename, Path: j.path(from), To: j.path(to)})
	return t.code, heard
}

// collect puts what the reduces have made into `out`, and at last the marker beside it.
func (j *job) collect() {
	if j.board.Dead() {
		j.conclude(failedName(api.ErrAttempts))
		return
	}
	for ; j.moved < len(j.left); j.moved++ {
		reduce := len(j.maps) + j.moved
		_, attempt, done := j.board.Winner(reduce)
		if !done {
			return
		}
		part := j.left[j.moved]
		if !j.enter(partFile(workName, part, j.tickets[reduce][attempt-1]), partName(part)) {
			return
		}
	}
	if j.mark() && j.conclude(readyName) {
		j.publish()
	}
}

// conclude gives the token the name that tells how the job went; false, where it isn't known to have that. It is looked first whether this is the same job still: somebody may have taken it away, and laid another one there.
func (j *job) conclude(name string) bool {
	spec, heard := j.m.look(j.path(specName))
	if !heard || !slices.Equal(spec.pieces, j.spec.pieces) {
		return false
	}
	code, heard := j.rename(tokenName, name)
	return heard && code == api.OK
}

// mark makes the marker; false, where it doesn't stand closed in `out` now. One that an earlier boot has left open is the master's all the same.
func (j *job) mark() bool {
	path := j.path(below(outName, markerName))
	t, heard := j.m.change(tree.Op{Kind: tree.Create, Path: path})
	if !heard || t.code != api.OK && t.code != api.ErrExists {
		return false
	}
	t, heard = j.m.change(tree.Op{Kind: tree.Close, Path: path})
	return heard && (t.code == api.OK || t.code == api.ErrLease)
}

// enter moves a closed file into `out`; false, where it doesn't stand there now.
func (j *job) enter(file, name string) bool {
	code, heard := j.rename(file, below(outName, name))
	if heard && code != api.OK {
		j.board = nil // somebody, or a call that was given up, has come between: the job is begun anew, with what stands there then
	}
	return heard && code == api.OK
}

// publish gives the output its place; where that can't be it is laid away, and only then the job has failed. What isn't known to be done is left to the next look at the job: for a call that was given up may be done yet.
func (j *job) publish() {
	if !slices.Contains(j.names, trashName) {
		if !j.load() || j.place() {
			return
		}
		if code, heard := j.rename(outName, trashName); !heard || code != api.OK {
			return
		}
	}
	j.rename(readyName, failedName(api.ErrOutput))
}

// place gives the output its place; false, where it is known that this can't be.
func (j *job) place() bool {
	if isJobs(j.Output) {
		return false
	}
	t, heard := j.m.change(tree.Op{Kind: tree.Rename, Path: j.path(outName), To: j.Output})
	return !heard || t.code == api.OK
}

// ready: the tasks of which a node may begin an attempt.
func (j *job) ready(node int) []int {
	return j.board.Ready(node, j.m.w.now)
}

// near: where the data of a task is: that of a map in its pieces, that of a reduce where the maps were done.
func (j *job) near(task int) []complex128 {
	if task < len(j.maps) {
		return j.maps[task].near
	}
	var nodes []int
	for m := range j.maps {
		node, _, _ := j.board.Winner(m)
		nodes = append(nodes, node)
	}
	return placesOf(nodes)
}

// message: what a worker must know of a task.
func (j *job) message(task, ticket, oldest int) record.Message {
	if task < len(j.maps) {
		m := j.maps[task]
		n := []int{mapTask, ticket, oldest, j.Parts, j.Spill, m.split.From, m.split.To}
		return record.Message{Kind: record.Task, N: append(n, numbersOf(m.pieces)...), T: []string{j.Program}}
	}
	n := []int{reduceTask, ticket, oldest, j.left[task-len(j.maps)]}
	for m := range j.maps {
		node, attempt, _ := j.board.Winner(m) // a reduce may begin when all maps are done
		n = append(n, node, j.tickets[m][attempt-1])
	}
	return record.Message{Kind: record.Task, N: n, T: []string{j.Program, j.path(workName)}}
}

// gone: a node has nothing any more of what it did.
func (j *job) gone(node int) {
	j.board.Gone(node)
	for m := range j.maps {
		if winner, attempt, done := j.board.Winner(m); done && winner == node {
			j.board.Lost(m, attempt)
		}
	}
}
