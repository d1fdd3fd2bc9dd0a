// Package wire is layer 2: see shared/doc/02-wire.md.
package wire

import (
	"strings"

	"mahout/api"
)

// most is how many bytes the form of a number may have.
const most = 10

// form is the bytes of one number, text or bool, and what was put ahead of it.
type form struct {
	ahead *form
	bytes string
}

// Pack gathers bytes.
//
// A form is never changed once it is put: so two Packs of which one was assigned to the other may share what they had, and go on apart.
type Pack struct {
	last *form
}

// put lays the bytes of a form behind the others.
func (p *Pack) put(bytes string) {
	if p != nil {
		p.last = &form{ahead: p.last, bytes: bytes}
	}
}

// Int: puts a number behind.
func (p *Pack) Int(n int) {
	p.put(number(n))
}

// Text: puts a text behind.
func (p *Pack) Text(s string) {
	p.put(number(len(s)) + s)
}

// Bool: puts a bool behind.
func (p *Pack) Bool(b bool) {
	if b {
		p.put("\x01")
	} else {
		p.put("\x00")
	}
}

// Bytes: all that was put.
func (p *Pack) Bytes() string {
	if p == nil {
		return ""
	}
	size := 0
	for f := p.last; f != nil; f = f.ahead {
		size += len(f.bytes)
	}
	all := make([]byte, size)
	for f := p.last; f != nil; f = f.ahead {
		size -= len(f.bytes)
		copy(all[size:], f.bytes)
	}
	return string(all)
}

// number: the form of a number.
func number(n int) string {
	// Numbers below 0 stand between the others, so that small ones of both kinds are short.
	u := uint64(n) << 1
	if n < 0 {
		u = ^u
	}
	written := make([]byte, 0, most)
	for u >= 0x80 {
		written = append(written, byte(u)|0x80)
		u >>= 7
	}
	return string(append(written, byte(u)))
}

// Unpack takes bytes apart.
type Unpack struct {
	s   string
	at  int
	err api.Errno // the first error
}

// Open: takes s apart.
func Open(s string) *Unpack {
	return &Unpack{s: s}
}

// stopped: can nothing be taken any more?
func (u *Unpack) stopped() bool {
	return u == nil || u.err != api.OK
}

// Int: the next number.
func (u *Unpack) Int() int {
	if u.stopped() {
		return 0
	}
	v, size, err := readNumber(u.s[u.at:])
	if err != api.OK {
		u.err = err
		return 0
	}
	u.at += size
	n := int(v >> 1)
	if v&1 == 1 {
		return ^n
	}
	return n
}

// readNumber: the number of 64 bits that is written at the beginning of s, and in how many bytes.
func readNumber(s string) (uint64, int, api.Errno) {
	var v uint64
	var b byte
	i := 0
next:
	if i == len(s) {
		goto short
	}
	b = s[i]
	if i == most-1 && b > 1 { // the pieces ahead are 63 bits, so this one has the last bit alone
		goto wrong
	}
	v |= uint64(b&0x7F) << (7 * i)
	i++
	if b >= 0x80 {
		goto next
	}
	if b == 0 && i > 1 { // the piece ahead would have done
		goto wrong
	}
	return v, i, api.OK
short:
	return 0, 0, api.ErrShort
wrong:
	return 0, 0, api.ErrForm
}

// Text: the next text.
func (u *Unpack) Text() string {
	n := u.Int()
	if u.stopped() {
		return ""
	}
	rest := u.s[u.at:]
	switch {
	case n < 0:
		u.err = api.ErrForm
	case n > api.MaxText:
		u.err = api.ErrLong
	case n > len(rest):
		u.err = api.ErrShort
	default:
		u.at += n
		return strings.Clone(rest[:n])
	}
	return ""
}

// Bool: the next bool.
func (u *Unpack) Bool() bool {
	if u.stopped() {
		return false
	}
	rest := u.s[u.at:]
	switch {
	case rest == "":
		u.err = api.ErrShort
	case rest[0] > 1:
		u.err = api.ErrForm
	default:
		u.at++
		return rest[0] == 1
	}
	return false
}

// End: the first error, or whether bytes are left.
func (u *Unpack) End() api.Errno {
	switch {
	case u == nil:
		return api.ErrArg
	case u.err != api.OK:
		return u.err
	case u.at < len(u.s):
		return api.ErrTail
	}
	return api.OK
}
