// Package crc is layer 1: see shared/doc/01-crc.md.
package crc

import (
	"iter"

	"mahout/api"
)

// half holds what four steps of the register make of its low four bits, so that a byte costs two look-ups in the place of eight steps.
var half = [16]uint32{
	0x00000000, 0x105EC76F, 0x20BD8EDE, 0x30E349B1,
	0x417B1DBC, 0x5125DAD3, 0x61C69362, 0x7198540D,
	0x82F63B78, 0x92A8FC17, 0xA24BB5A6, 0xB21572C9,
	0xC38D26C4, 0xD3D3E1AB, 0xE330A81A, 0xF36E6F75,
}

// shift: the register behind the eight steps of a byte that is already in it.
func shift(register uint32) uint32 {
	register = register>>4 ^ half[register&15]
	return register>>4 ^ half[register&15]
}

// Sum: the checksum of a text.
func Sum(s string) uint32 {
	return Extend(0, s)
}

// Extend: the checksum of a text and s behind it, from that of the text.
func Extend(c uint32, s string) uint32 {
	register := ^c
	for i := range len(s) {
		register = shift(register ^ uint32(s[i]))
	}
	return ^register
}

// Join: the checksum of two texts, from theirs and the second one's length.
//
// The steps are linear: in Extend of a over n bytes of 0, xor the Sum of these, the turned bits cancel out, and what is left is a, gone through n bytes.
func Join(a, b uint32, n int) (uint32, bool) {
	if n < 0 || n > api.MaxSize {
		return 0, false
	}
	for range n {
		a = shift(a)
	}
	return a ^ b, true
}

// chunks hands out the chunks of s, one at a time.
func chunks(s string, size int) iter.Seq[string] {
	return func(yield func(string) bool) {
		rest := s
		for size > 0 && rest != "" {
			n := min(size, len(rest))
			if !yield(rest[:n]) {
				return
			}
			rest = rest[n:]
		}
	}
}

// Chunks: the checksums of a text's chunks.
func Chunks(s string, size int) []uint32 {
	var sums []uint32
	for chunk := range chunks(s, size) {
		sums = append(sums, Sum(chunk))
	}
	return sums
}

// Bad: the first chunk that isn't as its checksum says; -1: none.
func Bad(s string, size int, sums []uint32) int {
	if size < 1 {
		return 0
	}
	n := 0
	for chunk := range chunks(s, size) {
		if n == len(sums) || Sum(chunk) != sums[n] {
			return n
		}
		n++
	}
	if n < len(sums) {
		return n
	}
	return -1
}
