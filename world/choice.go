package world

import (
	"slices"

	"mahout/api"
)

// draw is what is left of a choice: numbers are taken out of it as digits are, each with a base of its own.
type draw uint64

// below takes a number from 0 on and below n; 0, where there is none.
func (d *draw) below(n int) int {
	if n < 1 {
		return 0
	}
	base := draw(n)
	digit := *d % base
	*d /= base
	return int(digit)
}

// choose does what a choice says. What makes the run go on comes about most often.
func (w *world) choose(choice int) {
	d := draw(choice)
	switch kind := d.below(64); {
	case kind < 28:
		w.deliver(d.below(w.underWay))
	case kind < 52:
		w.turn(w.all[d.below(len(w.all))])
	case kind < 55:
		w.now++
	case kind < 57:
		w.lose(d.below(w.underWay))
	case kind < 59:
		w.double(d.below(w.underWay))
	case kind < 62:
		w.shake(&d)
	default:
		w.disturb(&d)
	}
}

// shake crashes a node, or, more often, brings one up again.
func (w *world) shake(d *draw) {
	if d.below(4) == 0 {
		w.crash(w.servers[d.below(len(w.servers))], d)
		return
	}
	down := slices.DeleteFunc(slices.Clone(w.servers), func(node int) bool { return w.up[node] != nil })
	if len(down) > 0 {
		w.raise(down[d.below(len(down))])
	}
}

// crash ends all that is in a node's memory. Its disk keeps some of what isn't synced, and tears one append.
func (w *world) crash(node int, d *draw) {
	if w.up[node] == nil {
		return
	}
	w.up[node].halt()
	w.up[node] = nil
	keep := d.below(w.disks[node].Pending() + 1)
	tear := d.below(mostTorn)
	w.disks[node].Crash(keep, tear)
	if node == headNode {
		w.ledger.crash(keep, tear)
	}
}

// disturb cuts a way, or mends one, or turns a bit.
func (w *world) disturb(d *draw) {
	switch d.below(4) {
	case 0:
		w.part(w.all[d.below(len(w.all))], w.all[d.below(len(w.all))])
	case 1, 2:
		w.mend(d.below(len(w.cuts)))
	case 3:
		if w.flips {
			w.flip(w.data[d.below(len(w.data))], d)
		}
	}
}

// part cuts the way between two nodes.
func (w *world) part(a, b int) {
	if w.net.Part(a, b, true) == api.OK {
		w.cuts = append(w.cuts, way{a, b})
	}
}

// mend mends the way that was cut as the k-th, if there is one.
func (w *world) mend(k int) {
	if k < len(w.cuts) {
		w.net.Part(w.cuts[k].a, w.cuts[k].b, false)
		w.cuts = slices.Delete(w.cuts, k, k+1)
	}
}

// flip turns a bit of a file on a data node's disk.
func (w *world) flip(node int, d *draw) {
	disk := w.disks[node]
	names := disk.List()
	if len(names) == 0 {
		return
	}
	name := names[d.below(len(names))]
	bytes, _ := disk.Read(name)
	disk.Flip(name, d.below(8*len(bytes)))
}
