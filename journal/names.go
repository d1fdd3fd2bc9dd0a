package journal

import (
	"strconv"
	"strings"
)

// The names of the files, or how they begin.
const (
	tmp       = "tmp"
	imageHead = "image-"
	editsHead = "edits-"
)

// mostNumber is the greatest number in a name: files with greater ones are somebody else's.
const mostNumber = 999999999

func imageName(segment int) string {
	return imageHead + strconv.Itoa(segment)
}

func editsName(segment, nth int) string {
	return editsHead + strconv.Itoa(segment) + "-" + strconv.Itoa(nth)
}

// imageOf: the segment of which a file with this name is the image; false, where it is none.
func imageOf(name string) (int, bool) {
	digits, ok := strings.CutPrefix(name, imageHead)
	if !ok {
		return 0, false
	}
	return numberOf(digits)
}

// editsOf: the segment of which a file with this name holds the records, and in which copy; false, where it holds none.
func editsOf(name string) (segment, nth int, ok bool) {
	digits, ok := strings.CutPrefix(name, editsHead)
	if !ok {
		return 0, 0, false
	}
	// Where there is no second part it is empty, which is no number.
	first, second, _ := strings.Cut(digits, "-")
	segment, isSegment := numberOf(first)
	nth, isNth := numberOf(second)
	if !isSegment || !isNth {
		return 0, 0, false
	}
	return segment, nth, true
}

// numberOf: the number that is written so in a name.
func numberOf(digits string) (int, bool) {
	n, err := strconv.Atoi(digits)
	// What is written back differs where there is a sign + or a nought ahead.
	if err != nil || n < 0 || n > mostNumber || strconv.Itoa(n) != digits {
		return 0, false
	}
	return n, true
}
