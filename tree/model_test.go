package tree_test

import (
	"math/rand"
	"slices"
	"strings"
	"testing"

	"mahout/api"
	"mahout/paths"
	"mahout/tree"
)

// model is a tree as the words tell it, without a tree: the entries by their paths, gone through for each question.
type model map[string]tree.Entry

func newModel() model {
	return model{"/": {Path: "/", Dir: true}}
}

// inside: does a path lie below another one?
func inside(path, dir string) bool {
	return path != dir && strings.HasPrefix(path, strings.TrimSuffix(dir, "/")+"/")
}

// cutLast: the path above and the last part.
func cutLast(path string) (string, string) {
	i := strings.LastIndex(path, "/")
	return path[:max(i, 1)], path[i+1:]
}

func (m model) count(dir string) int {
	n := 0
	for path := range m {
		if inside(path, dir) {
			n++
		}
	}
	return n
}

func (m model) find(path string) api.Errno {
	if paths.Check(path) != api.OK {
		return api.ErrPath
	}
	if path == "/" {
		return api.OK
	}
	above, _ := cutLast(path)
	if e := m.find(above); e != api.OK {
		return e
	}
	if !m[above].Dir {
		return api.ErrNotDir
	}
	if _, there := m[path]; !there {
		return api.ErrNoEnt
	}
	return api.OK
}

func (m model) place(path string) api.Errno {
	if paths.Check(path) != api.OK || path == "/" {
		return api.ErrPath
	}
	above, _ := cutLast(path)
	if e := m.find(above); e != api.OK {
		return e
	}
	if !m[above].Dir {
		return api.ErrNotDir
	}
	if _, there := m[path]; there {
		return api.ErrExists
	}
	return api.OK
}

// room: for n more below a path, but for the ancestors of another path.
func (m model) room(path string, n int, leftOut string) api.Errno {
	for dir, e := range m {
		if inside(path, dir) && !inside(leftOut, dir) && e.Quota > 0 && m.count(dir)+n > e.Quota {
			return api.ErrQuota
		}
	}
	return api.OK
}

func first(errors ...api.Errno) api.Errno {
	for _, e := range errors {
		if e != api.OK {
			return e
		}
	}
	return api.OK
}

// when is the error where something is so.
func when(so bool, e api.Errno) api.Errno {
	if so {
		return e
	}
	return api.OK
}

func (m model) would(op tree.Op) api.Errno {
	e := m[op.Path] // zero, where nothing stands there; then finding it is the error
	lease := when(!e.Open || e.Holder != op.Client, api.ErrLease)
	switch op.Kind {
	case tree.Mkdir, tree.Create:
		return first(m.place(op.Path), m.room(op.Path, 1, ""))
	case tree.Add:
		return first(m.find(op.Path), when(e.Dir, api.ErrIsDir), lease, when(op.Piece.Size < 1 || op.Piece.Size > 4096, api.ErrArg), when(len(e.Pieces) >= 1024, api.ErrLong))
	case tree.Close:
		return first(m.find(op.Path), when(e.Dir, api.ErrIsDir), lease)
	case tree.Delete:
		return first(when(op.Path == "/", api.ErrPath), m.find(op.Path))
	case tree.Rename:
		return m.wouldRename(op.Path, op.To)
	case tree.Limit:
		return first(m.find(op.Path), when(!e.Dir, api.ErrNotDir), when(op.Quota < 0, api.ErrArg))
	case tree.Expire:
		return first(m.find(op.Path), when(e.Dir, api.ErrIsDir), when(!e.Open, api.ErrLease))
	}
	return api.ErrArg
}

func (m model) wouldRename(path, to string) api.Errno {
	if path == "/" || to == "/" || paths.Check(path) != api.OK || paths.Check(to) != api.OK {
		return api.ErrPath
	}
	noPath, open := false, m[path].Open
	for p, e := range m {
		if inside(p, path) {
			noPath = noPath || paths.Check(to+p[len(path):]) != api.OK
			open = open || e.Open
		}
	}
	return first(m.find(path), when(to == path || inside(to, path), api.ErrInside), m.place(to),
		when(noPath, api.ErrPath), when(open, api.ErrOpen), m.room(to, 1+m.count(path), path))
}

func (m model) apply(op tree.Op) api.Errno {
	if e := m.would(op); e != api.OK {
		return e
	}
	e := m[op.Path]
	e.Path = op.Path
	switch op.Kind {
	case tree.Mkdir:
		e.Dir = true
	case tree.Create:
		e.Open, e.Holder = true, op.Client
	case tree.Add:
		e.Pieces = append(slices.Clone(e.Pieces), op.Piece)
	case tree.Close, tree.Expire:
		e.Open, e.Holder = false, 0
	case tree.Limit:
		e.Quota = op.Quota
	case tree.Delete, tree.Rename:
		m.move(op.Path, op.To, op.Kind == tree.Rename)
		return api.OK
	}
	m[op.Path] = e
	return api.OK
}

// move takes what stands at a path away, and puts it elsewhere if it is kept.
func (m model) move(path, to string, kept bool) {
	moved := map[string]tree.Entry{}
	for p, e := range m {
		if p == path || inside(p, path) {
			delete(m, p)
			e.Path = to + p[len(path):]
			moved[e.Path] = e
		}
	}
	for p, e := range moved {
		if kept {
			m[p] = e
		}
	}
}

func (m model) entries() []tree.Entry {
	var list []tree.Entry
	for _, e := range m {
		list = append(list, e)
	}
	slices.SortFunc(list, func(a, b tree.Entry) int { return paths.Compare(a.Path, b.Path) })
	return list
}

func (m model) stat(path string) (tree.Info, api.Errno) {
	if e := m.find(path); e != api.OK {
		return tree.Info{}, e
	}
	e := m[path]
	info := tree.Info{Dir: e.Dir, Open: e.Open, Holder: e.Holder, Quota: e.Quota, Count: m.count(path), Pieces: e.Pieces}
	for _, p := range e.Pieces {
		info.Size += p.Size
	}
	return info, api.OK
}

func (m model) list(path string) ([]string, api.Errno) {
	if e := first(m.find(path), when(!m[path].Dir, api.ErrNotDir)); e != api.OK {
		return nil, e
	}
	var names []string
	for p := range m {
		if above, name := cutLast(p); p != "/" && above == path {
			names = append(names, name)
		}
	}
	slices.Sort(names)
	return names, api.OK
}

// anyPath is mostly a path, and often one at which something may stand.
func anyPath(r *rand.Rand) string {
	names := []string{"a", "a", "b", "b", "a.", "c", strings.Repeat("n", api.MaxName)}
	path := ""
	for range r.Intn(5) {
		path += "/" + names[r.Intn(len(names))]
	}
	switch r.Intn(40) {
	case 0:
		return path
	case 1:
		return path + "/"
	case 2:
		return path + strings.Repeat("/d", api.MaxDepth-2)
	case 3:
		return strings.TrimPrefix(path, "/")
	}
	return "/" + strings.TrimPrefix(path, "/")
}

func anyOp(r *rand.Rand) tree.Op {
	kinds := []int{tree.Mkdir, tree.Mkdir, tree.Mkdir, tree.Create, tree.Create, tree.Add, tree.Add, tree.Close, tree.Close, tree.Delete, tree.Rename, tree.Rename, tree.Limit, tree.Expire, 0, 9}
	op := tree.Op{Kind: kinds[r.Intn(len(kinds))], Path: anyPath(r), To: anyPath(r), Client: r.Intn(2), Quota: r.Intn(12) - 1}
	if op.Kind == tree.Limit && r.Intn(2) == 0 {
		op.Quota = 0
	}
	if op.Kind == tree.Delete && r.Intn(3) > 0 { // so that more than a few things stand there
		op.Kind = tree.Close
	}
	op.Piece = api.Piece{Block: api.Block{Client: op.Client, Call: r.Intn(9), Try: r.Intn(9)}, Size: []int{0, 1, 2, 9, 4096, 4097}[r.Intn(6)], Sum: r.Uint32()}
	return op
}

// holdAgainst asks the tree and the model the same.
func holdAgainst(t *testing.T, tr *tree.Tree, m model, path string) {
	t.Helper()
	info, e := tr.Stat(path)
	wantInfo, wantE := m.stat(path)
	if e != wantE || !sameInfo(info, wantInfo) {
		t.Fatalf("Stat(%q): %v, %d, not %v, %d", path, info, e, wantInfo, wantE)
	}
	names, e := tr.List(path)
	wantNames, wantE := m.list(path)
	if e != wantE || !slices.Equal(names, wantNames) {
		t.Fatalf("List(%q): %v, %d, not %v, %d", path, names, e, wantNames, wantE)
	}
	if got, want := tr.Entries(), m.entries(); !slices.EqualFunc(got, want, sameEntry) {
		t.Fatalf("Entries: %v, not %v", got, want)
	}
}

// P7.2 to P7.6: whatever is asked for, the tree answers what the model does. (Each error must have come about, so that no row stands untried.)
func TestAgainstTheModel(t *testing.T) {
	met := map[[2]int]int{}
	for seed := range 60 {
		r := rand.New(rand.NewSource(int64(seed)))
		tr, m := tree.New(), newModel()
		for range 600 {
			op := anyOp(r)
			want := m.would(op)
			if got := tr.Would(op); got != want {
				t.Fatalf("seed %d: Would(%v): %d, not %d; %v", seed, op, got, want, m.entries())
			}
			holdAgainst(t, tr, m, op.Path)
			if got := tr.Apply(op); got != want {
				t.Fatalf("seed %d: Apply(%v): %d, not %d", seed, op, got, want)
			}
			m.apply(op)
			holdAgainst(t, tr, m, op.To)
			met[[2]int{op.Kind, int(want)}]++
			if r.Intn(50) == 0 { // and goes on as one that was built
				built, e := tree.Build(tr.Entries())
				if e != api.OK {
					t.Fatalf("seed %d: Build(%v): %d", seed, tr.Entries(), e)
				}
				tr = built
			}
		}
	}
	place := []api.Errno{api.OK, api.ErrPath, api.ErrNotDir, api.ErrNoEnt, api.ErrExists, api.ErrQuota}
	file := []api.Errno{api.OK, api.ErrPath, api.ErrNotDir, api.ErrNoEnt, api.ErrIsDir, api.ErrLease}
	for kind, errors := range [][]api.Errno{
		0: {api.ErrArg}, tree.Mkdir: place, tree.Create: place, tree.Add: append(file, api.ErrArg), tree.Close: file, tree.Delete: {api.OK, api.ErrPath, api.ErrNotDir, api.ErrNoEnt},
		tree.Rename: append(place, api.ErrInside, api.ErrOpen), tree.Limit: {api.OK, api.ErrPath, api.ErrNotDir, api.ErrNoEnt, api.ErrArg}, tree.Expire: file, 9: {api.ErrArg},
	} {
		for _, e := range errors {
			if met[[2]int{kind, int(e)}] == 0 {
				t.Errorf("kind %d never met error %d", kind, e)
			}
		}
	}
}

// anyEntry is mostly one that may stand in a tree.
func anyEntry(r *rand.Rand, path string) tree.Entry {
	e := tree.Entry{Path: path, Dir: r.Intn(3) > 0}
	if e.Dir {
		e.Quota = r.Intn(3)
	} else if e.Open = r.Intn(2) == 0; e.Open {
		e.Holder = r.Intn(3)
	}
	for range r.Intn(3) {
		if !e.Dir {
			e.Pieces = append(e.Pieces, piece(1+r.Intn(4096)))
		}
	}
	switch r.Intn(150) {
	case 0:
		e.Quota -= 2
	case 1:
		e.Holder++
	case 2:
		e.Pieces = append(e.Pieces, piece(r.Intn(2)*4097))
	}
	return e
}

// build: what Build must answer, by the words.
func build(list []tree.Entry) api.Errno {
	m := model{}
	for i, e := range list {
		sound := e.Quota >= 0 && !e.Open && e.Holder == 0 && len(e.Pieces) == 0
		if !e.Dir {
			sound = e.Quota == 0 && (e.Open || e.Holder == 0) && len(e.Pieces) <= 1024
			for _, p := range e.Pieces {
				sound = sound && p.Size >= 1 && p.Size <= 4096
			}
		}
		var err api.Errno
		if i == 0 {
			err = when(e.Path != "/" || !e.Dir || !sound, api.ErrForm)
		} else {
			err = first(when(paths.Compare(list[i-1].Path, e.Path) != -1, api.ErrForm), m.place(e.Path), when(!sound, api.ErrForm))
		}
		if err != api.OK {
			return err
		}
		m[e.Path] = e
	}
	return when(len(list) == 0, api.ErrForm)
}

// P7.6: Build of any lists, most of them nearly in order.
func TestBuildOfAnything(t *testing.T) {
	r := rand.New(rand.NewSource(1))
	met := map[api.Errno]int{}
	for range 20000 {
		all := map[string]int{"/": 1}
		for range r.Intn(6) {
			path := anyPath(r)
			for range r.Intn(20) { // with what stands above it
				all[path]++
				if path, _ = cutLast("/" + strings.TrimPrefix(path, "/")); path == "/" {
					break
				}
			}
		}
		var list []tree.Entry
		for path := range all {
			list = append(list, tree.Entry{Path: path})
		}
		slices.SortFunc(list, func(a, b tree.Entry) int { return paths.Compare(a.Path, b.Path) })
		for i := range list {
			list[i] = anyEntry(r, list[i].Path)
		}
		list[0].Dir = list[0].Dir || r.Intn(3) > 0
		if r.Intn(10) == 0 {
			i, k := r.Intn(len(list)), r.Intn(len(list))
			list[i], list[k] = list[k], list[i]
		}
		want := build(list)
		got, e := tree.Build(list)
		if e != want || (got == nil) != (want != api.OK) {
			t.Fatalf("Build(%v): %v, %d, not %d", list, got, e, want)
		}
		if e == api.OK {
			wantEntries(t, got, list...)
		}
		met[e]++
	}
	for _, e := range []api.Errno{api.OK, api.ErrForm, api.ErrPath, api.ErrNoEnt, api.ErrNotDir} {
		if met[e] == 0 {
			t.Errorf("error %d was never met: %v", e, met)
		}
	}
}
