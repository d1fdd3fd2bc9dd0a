package world

import (
	"slices"
	"strings"

	"mahout/api"
)

// mostDigits is how many a code has at most.
const mostDigits = 4

// StateOf: the state that the names in a job's directory tell, and why it failed.
func StateOf(names []string) (int, api.Errno) {
	for _, name := range names {
		if digits, failed := strings.CutPrefix(name, failedHead); failed {
			return Failed, codeOf(digits)
		}
	}
	has := func(name string) bool { return slices.Contains(names, name) }
	switch {
	case has(readyName) && !has(outName) && !has(trashName):
		return Succeeded, api.OK
	case has(readyName) || has(tokenName):
		return Running, api.OK
	}
	return Absent, api.OK
}

// codeOf: the code that digits write; 0, where they aren't one to four digits.
func codeOf(digits string) api.Errno {
	if len(digits) > mostDigits {
		return 0
	}
	code := 0
	for i := range len(digits) {
		c := digits[i]
		if c < '0' || c > '9' {
			return 0
		}
		code = 10*code + int(c-'0')
	}
	return api.Errno(code)
}
