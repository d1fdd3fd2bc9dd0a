package store

import (
	"strconv"
	"strings"

	"mahout/api"
	"mahout/crc"
	"mahout/wire"
)

// The names of the files, or how they begin.
const (
	laying   = "new" // a replica that is being written
	nameHead = "blk-"
)

// isNumber: may it stand in a block's name?
func isNumber(n int) bool {
	return n >= 0 && n <= api.MaxTime
}

// isName: is it the name of a block of which there may be a replica?
func isName(b api.Block) bool {
	return isNumber(b.Client) && isNumber(b.Call) && isNumber(b.Try)
}

// isData: may a block have these bytes?
func isData(data string) bool {
	return data != "" && len(data) <= api.MaxBlock
}

// fileName: the file in which the replica of a block lies.
func fileName(b api.Block) string {
	return nameHead + strconv.Itoa(b.Client) + "-" + strconv.Itoa(b.Call) + "-" + strconv.Itoa(b.Try)
}

// blockOf: the block of which a file with this name holds a replica; false, where it holds none.
func blockOf(name string) (api.Block, bool) {
	digits, ok := strings.CutPrefix(name, nameHead)
	if !ok {
		return api.Block{}, false
	}
	parts := strings.Split(digits, "-")
	if len(parts) != 3 {
		return api.Block{}, false
	}
	b := api.Block{Client: numberOf(parts[0]), Call: numberOf(parts[1]), Try: numberOf(parts[2])}
	// What is written back differs where there is a sign + or a nought ahead.
	if !isName(b) || fileName(b) != name {
		return api.Block{}, false
	}
	return b, true
}

// numberOf: the number that is written so; -1, where it is none.
func numberOf(digits string) int {
	n, err := strconv.Atoi(digits)
	if err != nil {
		return -1
	}
	return n
}

// fileOf: the bytes of the file of a block's replica.
//
// The chunks' checksums and the block's name stand in a frame of their own: so it is seen too, where a file has the bytes of another one.
func fileOf(b api.Block, data string) string {
	var head wire.Pack
	head.Int(b.Client)
	head.Int(b.Call)
	head.Int(b.Try)
	head.Int(len(data))
	for _, sum := range crc.Chunks(data, api.Chunk) {
		head.Int(int(sum))
	}
	return wire.Frame(head.Bytes()) + wire.Frame(data)
}

// dataOf: the data of a block's replica whose file has these bytes; false, where it isn't a good one.
func dataOf(b api.Block, file string) (string, bool) {
	bodies, _, err := wire.All(file)
	if err != api.OK || len(bodies) != 2 {
		return "", false
	}
	data := bodies[1]
	// There is one way alone to write a replica, so it is written anew: all checksums, those of the chunks too, are looked at in one.
	if !isData(data) || file != fileOf(b, data) {
		return "", false
	}
	return data, true
}
