package wire

import (
	"strings"

	"mahout/api"
	"mahout/crc"
)

// headSize is the length of what stands ahead of a frame's body, sumSize of what stands behind it.
const (
	headSize = 8
	sumSize  = 4
)

// Frame: a body with its length and its checksums.
func Frame(body string) string {
	if len(body) > api.MaxFrame {
		return ""
	}
	length := fourBytes(uint32(len(body)))
	return length + fourBytes(crc.Sum(length)) + body + fourBytes(crc.Sum(body))
}

// Next: the body of the frame that stands at a place, and the place behind it.
func Next(s string, at int) (string, int, api.Errno) {
	if at < 0 || at > len(s) {
		return "", 0, api.ErrArg
	}
	rest := s[at:]
	if rest == "" {
		return "", 0, api.ErrNone
	}
	if len(rest) < headSize {
		return "", 0, api.ErrTorn
	}
	length := fromFour(rest)
	// The length has a checksum of its own: without it a bit that turned there would look like a torn end.
	if crc.Sum(rest[:4]) != fromFour(rest[4:]) || length > api.MaxFrame {
		return "", 0, api.ErrCorrupt
	}
	end := headSize + int(length)
	if len(rest) < end+sumSize {
		return "", 0, api.ErrTorn
	}
	body := rest[headSize:end]
	if crc.Sum(body) != fromFour(rest[end:]) {
		return "", 0, api.ErrCorrupt
	}
	return strings.Clone(body), at + end + sumSize, api.OK
}

// All: the bodies of all frames, the place where they end, and why.
func All(s string) ([]string, int, api.Errno) {
	var bodies []string
	at := 0
	for {
		body, behind, err := Next(s, at)
		if err == api.ErrNone {
			return bodies, at, api.OK
		}
		if err != api.OK {
			return bodies, at, err
		}
		bodies = append(bodies, body)
		at = behind
	}
}

// fourBytes: a number in four bytes, the lowest first.
func fourBytes(n uint32) string {
	return string([]byte{byte(n), byte(n >> 8), byte(n >> 16), byte(n >> 24)})
}

// fromFour: the number that the first four bytes of s are.
func fromFour(s string) uint32 {
	return uint32(s[0]) | uint32(s[1])<<8 | uint32(s[2])<<16 | uint32(s[3])<<24
}
