package image

import (
	"math"

	"mahout/api"
	"mahout/tree"
	"mahout/wire"
)

// packer is a pack that also takes what a checkpoint is made of.
type packer struct {
	wire.Pack
}

func (p *packer) entry(e tree.Entry) {
	p.Text(e.Path)
	p.Bool(e.Dir)
	if e.Dir {
		p.Int(e.Quota)
		return
	}
	p.Bool(e.Open)
	p.Int(e.Holder)
	p.Int(len(e.Pieces))
	for _, piece := range e.Pieces {
		p.piece(piece)
	}
}

func (p *packer) piece(piece api.Piece) {
	p.Int(piece.Block.Client)
	p.Int(piece.Block.Call)
	p.Int(piece.Block.Try)
	p.Int(piece.Size)
	p.Int(int(piece.Sum))
}

func (p *packer) seen(s Seen) {
	p.Int(s.Client)
	p.Int(s.Call)
	p.Int(int(s.Code))
}

// reader takes what a packer has put. Where it meets an error it gives up: it panics with the error's number.
type reader struct {
	from *wire.Unpack
	most int // there are no more things of one kind than bytes
}

func newReader(s string) reader {
	return reader{wire.Open(s), len(s)}
}

// check gives up where the last form couldn't be taken.
func (r reader) check() {
	if err := r.from.End(); err != api.OK && err != api.ErrTail {
		panic(err)
	}
}

func (r reader) number() int {
	n := r.from.Int()
	r.check()
	return n
}

// numberTo: a number from 0 to most.
func (r reader) numberTo(most int) int {
	n := r.number()
	if n < 0 || n > most {
		panic(api.ErrForm)
	}
	return n
}

func (r reader) text() string {
	s := r.from.Text()
	r.check()
	return s
}

func (r reader) flag() bool {
	b := r.from.Bool()
	r.check()
	return b
}

// end gives up where bytes are left.
func (r reader) end() {
	if err := r.from.End(); err != api.OK {
		panic(err)
	}
}

// many: as many things as the number ahead of them tells.
func many[T any](r reader, one func() T) []T {
	var all []T
	for range r.numberTo(r.most) {
		all = append(all, one())
	}
	return all
}

func (r reader) entry() tree.Entry {
	e := tree.Entry{Path: r.text(), Dir: r.flag()}
	if e.Dir {
		e.Quota = r.number()
		return e
	}
	e.Open = r.flag()
	e.Holder = r.number()
	e.Pieces = many(r, r.piece)
	return e
}

func (r reader) piece() api.Piece {
	block := api.Block{Client: r.number(), Call: r.number(), Try: r.number()}
	return api.Piece{Block: block, Size: r.number(), Sum: uint32(r.numberTo(math.MaxUint32))}
}

func (r reader) seen() Seen {
	return Seen{Client: r.number(), Call: r.number(), Code: api.Errno(r.number())}
}
