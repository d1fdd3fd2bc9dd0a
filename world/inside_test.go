package world

import (
	"math"
	"math/rand"
	"reflect"
	"runtime"
	"slices"
	"strings"
	"testing"
	"time"

	"mahout/api"
	"mahout/store"
	"mahout/tree"
)

// A process runs only while it is pulled, and rests where it says so.
func TestCoroutine(t *testing.T) {
	var steps []int
	pull, stop := coroutine(func(rest func()) {
		for i := range 3 {
			steps = append(steps, i)
			rest()
		}
		steps = append(steps, 9)
	})
	for i, want := range [][]int{{0}, {0, 1}, {0, 1, 2}, {0, 1, 2, 9}, {0, 1, 2, 9}} {
		pull()
		if !slices.Equal(steps, want) {
			t.Errorf("pull %d: %v", i, steps)
		}
	}
	stop() // it is over
	stop()
}

// A process that is stopped does nothing more, but for what it has deferred.
func TestCoroutineIsStopped(t *testing.T) {
	for pulls := range 3 {
		begun, ended, unwound := false, false, false
		pull, stop := coroutine(func(rest func()) {
			begun = true
			defer func() { unwound = true }()
			rest()
			rest()
			rest()
			ended = true
		})
		for range pulls {
			pull()
		}
		stop()
		pull()
		stop()
		if begun != (pulls > 0) || unwound != begun || ended {
			t.Errorf("%d pulls: %v %v %v", pulls, begun, unwound, ended)
		}
	}
}

// A process that ends by another panic than that of being stopped: whoever pulls it gets that.
func TestCoroutineFails(t *testing.T) {
	pull, stop := coroutine(func(rest func()) {
		rest()
		panic("a fault")
	})
	pull()
	func() {
		defer func() {
			if fault := recover(); fault != "a fault" {
				t.Errorf("%v", fault)
			}
		}()
		pull()
	}()
	pull()
	stop()
}

// No process is left when a run has ended, wherever they were.
func TestNoneIsLeft(t *testing.T) {
	before := runtime.NumGoroutine()
	for _, n := range []int{0, 1, 10, 100, 1000} {
		s := busy(int64(n))
		s.Choices = s.Choices[:n]
		Run(s)
		s.Rounds = n
		Run(s)
	}
	for range 100 { // the last step of each is seen ahead of its end
		if runtime.NumGoroutine() <= before {
			return
		}
		time.Sleep(time.Millisecond)
	}
	t.Errorf("%d processes were left", runtime.NumGoroutine()-before)
}

func TestDraw(t *testing.T) {
	d := draw(5 + 7*(2+3*(1+10*4)))
	for i, w := range [][2]int{{7, 5}, {3, 2}, {1, 0}, {0, 0}, {-5, 0}, {10, 1}, {100, 4}, {100, 0}} {
		if got := d.below(w[0]); got != w[1] {
			t.Errorf("number %d: %d, not %d", i, got, w[1])
		}
	}
	for _, choice := range []int{math.MinInt, -1, math.MaxInt} {
		d := draw(choice)
		for n := range 100 {
			if got := d.below(n); got < 0 || n > 0 && got >= n || n == 0 && got != 0 {
				t.Errorf("%d: %d below %d", choice, got, n)
			}
		}
	}
}

func TestSpec(t *testing.T) {
	long := strings.Repeat("/x", 100000)
	for _, j := range []Job{
		{}, {Program: "map { } reduce { }", Output: "/out", Inputs: []string{"/a", "", "/b"}, Parts: 3, Split: -5, Spill: math.MaxInt},
		{Program: "\x00\xff", Output: "no path", Parts: math.MinInt},
	} {
		s := specOf(j)
		if again, right := jobOf(s); !right || !reflect.DeepEqual(again, j) {
			t.Errorf("%v: %v %v", j, right, again)
		}
		for cut := range len(s) {
			if _, right := jobOf(s[:cut]); right {
				t.Errorf("%v: the first %d bytes", j, cut)
			}
		}
		if _, right := jobOf(s + "x"); right {
			t.Errorf("%v: and more", j)
		}
	}
	if s := specOf(Job{Program: long, Output: long, Inputs: []string{long}}); len(s) > 2*api.MaxCode {
		t.Errorf("%d bytes", len(s))
	}
	if _, right := jobOf("\x00\x00\x00\x00\x00\x01"); right { // -1 inputs
		t.Error("inputs below 0")
	}
}

// busy is a script with many choices in which blocks are made, copied and dropped.
func busy(seed int64) Script {
	r := rand.New(rand.NewSource(seed))
	s := Script{Nodes: 1 + r.Intn(4), Replicas: 1 + r.Intn(3), Block: 100, Room: []int{2000, 1 << 20}[r.Intn(2)], Flips: r.Intn(2) == 0}
	paths := []string{"/f", "/g", "/h"}
	for range 1 + r.Intn(3) {
		var acts []Act
		for range 30 {
			p := paths[r.Intn(3)]
			acts = append(acts, Act{Kind: Create, Path: p}, Act{Kind: Append, Path: p, Data: strings.Repeat("a ", 1+r.Intn(40))}, Act{Kind: Read, Path: p})
			switch r.Intn(5) {
			case 0:
				acts = append(acts, Act{Kind: Delete, Path: p})
			case 1:
				acts = append(acts, Act{Kind: Close, Path: p}, Act{Kind: Rename, Path: p, To: paths[r.Intn(3)]})
			case 2:
				acts = append(acts, Act{Kind: Close, Path: p}, Act{Kind: Submit, Path: p[1:], Job: Job{
					Program: `map { each w in value by " " { emit w, "1"; } } reduce { emit key, text(sum(values)); }`, Output: "/out" + p[1:], Inputs: []string{p}, Parts: 2, Split: 10, Spill: 3}})
			}
		}
		s.Acts = append(s.Acts, acts)
	}
	rough := r.Intn(3) == 0
	for range 3000 {
		c := int(r.Uint64())
		if rough && r.Intn(10) == 0 {
			c = 59 + r.Intn(3) + 64*r.Intn(1<<20) // nodes crash and come up
		}
		s.Choices = append(s.Choices, c)
	}
	return s
}

// stepped runs a script and has a look behind each step.
func stepped(s Script, look func(w *world)) {
	w := newWorld(s)
	defer w.close()
	for _, choice := range s.Choices {
		w.step++
		w.choose(choice)
		look(w)
	}
	s.Rounds = max(s.Rounds, 1)
	w.rounds = 1
	for range s.Rounds {
		w.settle()
		look(w)
	}
}

// What the world takes for made is what the name node has; and what lasts is what it has when it comes up again.
func TestLedger(t *testing.T) {
	for seed := range int64(60) {
		s := busy(seed)
		made := tree.New()
		count, boot := 0, 1
		stepped(s, func(w *world) {
			if len(w.ledger.changes) < count || w.boots[headNode] != boot {
				made, count, boot = tree.New(), 0, w.boots[headNode]
			}
			for ; count < len(w.ledger.changes); count++ {
				if code := made.Apply(w.ledger.changes[count].Op); code != api.OK {
					t.Fatalf("seed %d: change %d: %d", seed, count, code)
				}
			}
			if h, up := w.up[headNode].(*head); up {
				if !reflect.DeepEqual(h.node.Entries(), made.Entries()) {
					t.Fatalf("seed %d, step %d: the name node has something else", seed, w.step)
				}
				if pending := w.disks[headNode].Pending(); pending != len(w.ledger.changes)-w.ledger.lasting {
					t.Fatalf("seed %d, step %d: %d records don't last", seed, w.step, pending)
				}
			} else if w.ledger.lasting != len(w.ledger.changes) {
				t.Fatalf("seed %d, step %d: down, and something doesn't last", seed, w.step)
			}
		})
		w := newWorld(s)
		for _, choice := range s.Choices {
			w.choose(choice)
		}
		o := w.outcome()
		pending := w.disks[headNode].Pending()
		again, serving := openHead(w) // another boot
		w.close()
		if pending != 0 || !serving {
			t.Fatalf("seed %d: serving %v, %d records don't last", seed, serving, pending)
		}
		made = tree.New()
		for _, c := range o.Changes {
			made.Apply(c.Op)
		}
		if !reflect.DeepEqual(again.node.Entries(), made.Entries()) {
			t.Fatalf("seed %d: something else lasts", seed)
		}
	}
}

// holders: how many data nodes' disks have this block, synced.
func (w *world) holdersOf(b api.Block, data string) int {
	n := 0
	for _, node := range w.data {
		d := w.disks[node]
		d.Crash(0, 0) // what isn't synced is lost: nothing is
		if s, _ := store.Open(d); s != nil {
			if there, code := s.Read(b); code == api.OK && there == data {
				n++
			}
		}
	}
	return n
}

// Ahead of each Add the bytes lie on a data node's disk, synced; and as long as a file needs them, they do so.
func TestBytesLast(t *testing.T) {
	for seed := range int64(30) {
		s := busy(seed)
		s.Flips = false
		seen := 0
		stepped(s, func(w *world) {
			h, up := w.up[headNode].(*head)
			if !up || len(w.ledger.changes) == seen && w.step%50 > 0 {
				return
			}
			seen = len(w.ledger.changes)
			for _, b := range h.needed() {
				if w.holdersOf(b, w.texts[b].data) == 0 {
					t.Fatalf("seed %d, step %d: nobody holds %v", seed, w.step, b)
				}
			}
		})
	}
}

// Where nothing fails all blocks have as many replicas as there should be, and what nobody needs is dropped.
func TestReplicas(t *testing.T) {
	for replicas := range 5 {
		var acts []Act
		for range 10 {
			acts = append(acts, Act{Kind: Create, Path: "/f"}, Act{Kind: Append, Path: "/f", Data: "abc"}, Act{Kind: Append, Path: "/f", Data: "d"}, Act{Kind: Delete, Path: "/f"})
		}
		acts = append(acts, acts[:3]...)
		s := Script{Nodes: 3, Replicas: replicas, Block: 10, Room: 1 << 20, Acts: [][]Act{acts}, Rounds: 40*len(acts) + 20}
		stepped(s, func(w *world) {
			if w.step < s.Rounds {
				return
			}
			needed := w.up[headNode].(*head).needed()
			for _, b := range needed {
				if n := w.holdersOf(b, w.texts[b].data); n != w.replicas {
					t.Errorf("%d replicas of %v, not %d", n, b, w.replicas)
				}
			}
			for _, node := range w.data {
				h := w.up[node].(*holder)
				for _, b := range h.store.List() {
					if !slices.Contains(needed, b) {
						t.Errorf("nobody needs %v", b)
					}
				}
			}
		})
	}
}

// A data node that has lost a replica gets a new one.
func TestReplicasAgain(t *testing.T) {
	s := Script{Nodes: 2, Replicas: 2, Block: 10, Room: 1 << 20, Rounds: 200, Flips: true,
		Acts: [][]Act{{{Kind: Create, Path: "/f"}, {Kind: Append, Path: "/f", Data: "abc"}, {Kind: Close, Path: "/f"}}}}
	stepped(s, func(w *world) {
		if w.step == 100 {
			d := w.disks[firstData]
			if d.Flip(d.List()[0], 100) != api.OK {
				t.Error("no bit turned")
			}
		}
		if w.step != 200 {
			return
		}
		for _, b := range w.up[headNode].(*head).needed() {
			if n := w.holdersOf(b, w.texts[b].data); n != 2 {
				t.Errorf("%d replicas", n)
			}
		}
	})
}

// P25.3: bits turn on data nodes' disks, where the script says so, and never on the name node's.
func TestFlips(t *testing.T) {
	for _, flips := range []bool{false, true} {
		turned := 0
		for seed := range int64(30) {
			s := busy(seed)
			s.Flips = flips
			w := newWorld(s)
			for _, choice := range s.Choices {
				w.step++
				var before [mostNodes]map[string]string
				kind := draw(choice)
				isDisturbed := kind.below(64) >= 62
				for node, d := range w.disks {
					if isDisturbed && d != nil {
						before[node] = map[string]string{}
						for _, name := range d.List() {
							before[node][name], _ = d.Read(name)
						}
					}
				}
				w.choose(choice)
				for node, d := range w.disks {
					for name, bytes := range before[node] {
						if now, _ := d.Read(name); now != bytes {
							turned++
							if node < firstData || len(now) != len(bytes) {
								t.Errorf("seed %d: node %d", seed, node)
							}
						}
					}
				}
			}
			w.close()
		}
		if flips != (turned > 0) {
			t.Errorf("flips %v: %d bits have turned", flips, turned)
		}
	}
}

// Everything that choices are to bring about does come about.
func TestWhatComesAbout(t *testing.T) {
	var down, up, cut, mended, ticks, torn int
	s := busy(1)
	for seed := range int64(20) {
		s.Choices = append(s.Choices, busy(seed).Choices...)
	}
	w := newWorld(s)
	defer w.close()
	for _, choice := range s.Choices {
		before, cuts, now, pending := w.up, len(w.cuts), w.now, len(w.ledger.changes)-w.ledger.lasting
		w.choose(choice)
		for i, m := range w.up {
			switch {
			case m == nil && before[i] != nil:
				down |= 1 << i
				if i == headNode && pending > 0 {
					torn++
				}
			case m != nil && before[i] == nil:
				up |= 1 << i
			}
		}
		if len(w.cuts) > cuts {
			cut++
		}
		if len(w.cuts) < cuts {
			mended++
		}
		ticks += w.now - now
	}
	servers := 0
	for _, node := range w.servers {
		servers |= 1 << node
	}
	if down != servers || up != servers {
		t.Errorf("crashed: %b, up again: %b, of %b", down, up, servers)
	}
	if cut == 0 || mended == 0 || ticks == 0 || torn == 0 {
		t.Errorf("%d cut, %d mended, %d ticks, %d crashes with records that didn't last", cut, mended, ticks, torn)
	}
}
