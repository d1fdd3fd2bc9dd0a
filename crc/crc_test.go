package crc_test

import (
	"math"
	"math/rand"
	"slices"
	"strings"
	"testing"

	"mahout/api"
	"mahout/crc"
)

// steps is the register gone through s bit by bit, as the document tells it.
func steps(register uint32, s string) uint32 {
	for i := 0; i < len(s); i++ {
		register ^= uint32(s[i])
		for bit := 0; bit < 8; bit++ {
			out := register & 1
			register >>= 1
			if out == 1 {
				register ^= 0x82F63B78
			}
		}
	}
	return register
}

// texts are the empty one, all of one byte, and longer ones of any bytes.
func texts() []string {
	list := []string{""}
	for b := range 256 {
		list = append(list, string([]byte{byte(b)}))
	}
	r := rand.New(rand.NewSource(1))
	for n := range 200 {
		list = append(list, someText(r, n))
	}
	return append(list, someText(r, 70000))
}

func someText(r *rand.Rand, n int) string {
	bytes := make([]byte, n)
	for i := range bytes {
		bytes[i] = byte(r.Intn(256))
	}
	return string(bytes)
}

// P1.1
func TestSumOfKnownTexts(t *testing.T) {
	rising, falling := make([]byte, 32), make([]byte, 32)
	for i := range rising {
		rising[i], falling[31-i] = byte(i), byte(i)
	}
	for s, want := range map[string]uint32{
		"":                         0,
		"a":                        0xC1D04330,
		"123456789":                0xE3069283,
		strings.Repeat("\x00", 32): 0x8A9136AA,
		strings.Repeat("\xff", 32): 0x62A8AB43,
		string(rising):             0x46DD794E,
		string(falling):            0x113FDB5C,
	} {
		if got := crc.Sum(s); got != want {
			t.Errorf("Sum(%q) is %08X, not %08X", s, got, want)
		}
	}
}

// P1.1
func TestSumIsTheRegister(t *testing.T) {
	for _, s := range texts() {
		if got, want := crc.Sum(s), ^steps(0xFFFFFFFF, s); got != want {
			t.Errorf("Sum of %d bytes is %08X, not %08X", len(s), got, want)
		}
	}
}

// P1.2
func TestExtendBeginsAsTold(t *testing.T) {
	for _, c := range []uint32{0, 1, 0x80000000, 0xFFFFFFFF, 0x12345678} {
		for _, s := range texts() {
			if got, want := crc.Extend(c, s), ^steps(^c, s); got != want {
				t.Fatalf("Extend(%08X, %d bytes) is %08X, not %08X", c, len(s), got, want)
			}
		}
	}
}

// P1.2
func TestExtendIsTheSumOfBoth(t *testing.T) {
	s := "some bytes \x00\xff, cut anywhere"
	for i := range len(s) + 1 {
		if crc.Extend(crc.Sum(s[:i]), s[i:]) != crc.Sum(s) {
			t.Errorf("Extend, cut at %d", i)
		}
	}
}

// P1.3
func TestJoinIsTheSumOfBoth(t *testing.T) {
	for _, x := range []string{"", "\x00", "abc", strings.Repeat("long ", 1000)} {
		for _, y := range append(texts(), strings.Repeat("z", api.MaxSize)) {
			got, ok := crc.Join(crc.Sum(x), crc.Sum(y), len(y))
			if len(y) > api.MaxSize {
				if ok || got != 0 {
					t.Errorf("Join over %d bytes: %08X, %v", len(y), got, ok)
				}
			} else if !ok || got != crc.Sum(x+y) {
				t.Errorf("Join over %d bytes: %08X, %v, not %08X", len(y), got, ok, crc.Sum(x+y))
			}
		}
	}
}

// P1.3
func TestJoinOfAnyNumbers(t *testing.T) {
	r := rand.New(rand.NewSource(2))
	for _, n := range []int{0, 1, 2, 3, 4, 5, 63, 64, 1000, api.MaxSize - 1, api.MaxSize} {
		noughts := strings.Repeat("\x00", n)
		for range 20 {
			a, b := r.Uint32(), r.Uint32()
			got, ok := crc.Join(a, b, n)
			if want := crc.Extend(a, noughts) ^ b ^ crc.Sum(noughts); !ok || got != want {
				t.Errorf("Join(%08X, %08X, %d) is %08X, %v, not %08X", a, b, n, got, ok, want)
			}
		}
	}
}

// P1.3
func TestJoinOfNoLength(t *testing.T) {
	for _, n := range []int{-1, math.MinInt, api.MaxSize + 1, math.MaxInt} {
		if got, ok := crc.Join(1, 2, n); ok || got != 0 {
			t.Errorf("Join over %d bytes: %08X, %v", n, got, ok)
		}
	}
}

// cut is the Sums of the chunks, counted off byte by byte.
func cut(s string, size int) []uint32 {
	var sums []uint32
	for i := 0; i < len(s); i++ {
		if i%size == 0 {
			sums = append(sums, 0)
		}
		sums[i/size] = crc.Extend(sums[i/size], s[i:i+1])
	}
	return sums
}

// P1.4
func TestChunks(t *testing.T) {
	for n := range 20 {
		s := "abcdefghijklmnopqrst"[:n]
		for _, size := range []int{1, 2, 3, 4, 5, 19, 20, 21, math.MaxInt - 1, math.MaxInt} {
			if got, want := crc.Chunks(s, size), cut(s, size); !slices.Equal(got, want) {
				t.Errorf("Chunks(%q, %d) is %08X, not %08X", s, size, got, want)
			}
		}
	}
	if got := crc.Chunks("abc", 2); len(got) != 2 || got[0] != crc.Sum("ab") || got[1] != crc.Sum("c") {
		t.Errorf("Chunks of abc: %08X", got)
	}
}

// P1.4
func TestChunksOfNoSize(t *testing.T) {
	for _, size := range []int{0, -1, math.MinInt} {
		for _, s := range []string{"", "a", "abc"} {
			if got := crc.Chunks(s, size); len(got) != 0 {
				t.Errorf("Chunks(%q, %d): %08X", s, size, got)
			}
		}
	}
}

// P1.4: an answer is new memory.
func TestChunksAreNewEachTime(t *testing.T) {
	one := crc.Chunks("abcd", 2)
	one[0], one[1] = 7, 7
	if two := crc.Chunks("abcd", 2); two[0] != crc.Sum("ab") || two[1] != crc.Sum("cd") {
		t.Errorf("Chunks: %08X", two)
	}
}

// P1.5
func TestBadFindsTheFirstWrongSum(t *testing.T) {
	s := "abcdefghij"
	for size := 1; size <= len(s)+1; size++ {
		right := crc.Chunks(s, size)
		if got := crc.Bad(s, size, right); got != -1 {
			t.Errorf("Bad of what is right, chunks of %d: %d", size, got)
		}
		for i := range right {
			wrong := slices.Clone(right)
			for k := i; k < len(wrong); k++ { // all behind the first one are wrong too
				wrong[k] ^= 1
			}
			if got := crc.Bad(s, size, wrong); got != i {
				t.Errorf("Bad, chunks of %d, wrong from %d on: %d", size, i, got)
			}
		}
	}
}

// P1.5
func TestBadFindsTurnedBits(t *testing.T) {
	s := "some bytes that lie on a disk"
	sums := crc.Chunks(s, 4)
	for bit := range 8 * len(s) {
		turned := []byte(s)
		turned[bit/8] ^= 1 << (bit % 8)
		if got := crc.Bad(string(turned), 4, sums); got != bit/8/4 {
			t.Errorf("Bad with bit %d turned: %d", bit, got)
		}
	}
}

// P1.5
func TestBadOfMoreOrFewerSums(t *testing.T) {
	s := "abcde"
	right := crc.Chunks(s, 2)
	for n := range right {
		if got := crc.Bad(s, 2, right[:n]); got != n {
			t.Errorf("Bad with the first %d sums: %d", n, got)
		}
	}
	for more := 1; more < 4; more++ {
		if got := crc.Bad(s, 2, append(slices.Clone(right), make([]uint32, more)...)); got != 3 {
			t.Errorf("Bad with %d sums too many: %d", more, got)
		}
	}
	if got := crc.Bad(s, 2, []uint32{right[0], 1}); got != 1 {
		t.Errorf("Bad with a wrong sum and one missing: %d", got)
	}
	if got := crc.Bad(s, 2, append([]uint32{1}, right...)); got != 0 {
		t.Errorf("Bad with a wrong sum and one too many: %d", got)
	}
	if got := crc.Bad("", 4, nil); got != -1 {
		t.Errorf("Bad of nothing: %d", got)
	}
	if got := crc.Bad("", 4, []uint32{0}); got != 0 {
		t.Errorf("Bad of nothing with a sum: %d", got)
	}
	if got := crc.Bad("a", math.MaxInt, []uint32{crc.Sum("a")}); got != -1 {
		t.Errorf("Bad of one great chunk: %d", got)
	}
}

// P1.5
func TestBadOfNoSize(t *testing.T) {
	for _, size := range []int{0, -1, math.MinInt} {
		for _, s := range []string{"", "abc"} {
			for _, sums := range [][]uint32{nil, {crc.Sum(s)}} {
				if got := crc.Bad(s, size, sums); got != 0 {
					t.Errorf("Bad(%q, %d, %08X): %d", s, size, sums, got)
				}
			}
		}
	}
}

// P1.5: what is handed in isn't changed, nor the room behind it.
func TestBadChangesNothing(t *testing.T) {
	all := append(crc.Chunks("abcdef", 2), 77)
	before := slices.Clone(all)
	crc.Bad("abcdefgh", 2, all[:2])
	if !slices.Equal(all, before) {
		t.Errorf("the sums are %08X now, not %08X", all, before)
	}
}
