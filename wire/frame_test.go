package wire_test

import (
	"encoding/binary"
	"math"
	"slices"
	"strings"
	"testing"

	"mahout/api"
	"mahout/crc"
	"mahout/wire"
)

func four(n uint32) string {
	return string(binary.LittleEndian.AppendUint32(nil, n))
}

// head is what stands ahead of a body of so many bytes.
func head(length uint32) string {
	return four(length) + four(crc.Sum(four(length)))
}

// turn is s with a bit turned.
func turn(s string, bit int) string {
	bytes := []byte(s)
	bytes[bit/8] ^= 1 << (bit % 8)
	return string(bytes)
}

// P2.4
func TestFrame(t *testing.T) {
	for _, body := range []string{"", "a", "abc\x00\xff", strings.Repeat("z", 300), strings.Repeat("m", api.MaxFrame)} {
		if got := wire.Frame(body); got != head(uint32(len(body)))+body+four(crc.Sum(body)) {
			t.Errorf("Frame of %d bytes", len(body))
		}
	}
	if got := wire.Frame("\x01"); got[:4] != "\x01\x00\x00\x00" || len(got) != 13 {
		t.Errorf("Frame of a byte: %x", got)
	}
	if got := wire.Frame(strings.Repeat("m", api.MaxFrame+1)); got != "" {
		t.Errorf("Frame of too much: %d bytes", len(got))
	}
}

func wantFault(t *testing.T, what, s string, at int, want api.Errno) {
	t.Helper()
	if body, place, e := wire.Next(s, at); body != "" || place != 0 || e != want {
		t.Errorf("%s: %q, %d, %d, not %d", what, body, place, e, want)
	}
}

// P2.5
func TestNext(t *testing.T) {
	most := strings.Repeat("m", api.MaxFrame)
	s := "xyz" + wire.Frame("ab") + wire.Frame("") + wire.Frame(most)
	at := 3
	for _, want := range []string{"ab", "", most} {
		body, place, e := wire.Next(s, at)
		if body != want || place != at+12+len(want) || e != api.OK {
			t.Errorf("Next at %d: %d bytes, %d, %d", at, len(body), place, e)
		}
		at = place
	}
	wantFault(t, "behind the last one", s, at, api.ErrNone)
}

// P2.5
func TestNextOfNoPlace(t *testing.T) {
	s := wire.Frame("a")
	for _, at := range []int{-1, math.MinInt, len(s) + 1, math.MaxInt} {
		wantFault(t, "no place", s, at, api.ErrArg)
	}
	wantFault(t, "the end", s, len(s), api.ErrNone)
	wantFault(t, "nothing", "", 0, api.ErrNone)
	wantFault(t, "behind nothing", "", 1, api.ErrArg)
}

// P2.5
func TestNextOfWhatIsTorn(t *testing.T) {
	s := "ahead" + wire.Frame("some bytes")
	for n := 6; n < len(s); n++ {
		wantFault(t, "torn", s[:n], 5, api.ErrTorn)
	}
	wantFault(t, "seven bytes that are nothing", "\xff\xff\xff\xff\xff\xff\xff", 0, api.ErrTorn)
	wantFault(t, "a wrong body that is torn", head(3)+"abc"+"\x00\x00\x00", 0, api.ErrTorn)
	wantFault(t, "the greatest length, torn", head(api.MaxFrame), 0, api.ErrTorn)
}

// P2.5
func TestNextOfWhatWasChanged(t *testing.T) {
	s := wire.Frame("some bytes")
	for bit := range 8 * len(s) {
		wantFault(t, "a bit turned", turn(s, bit), 0, api.ErrCorrupt)
	}
	for bit := range 64 { // the head is looked at, whatever is missing behind it
		wantFault(t, "a bit of the head turned", turn(s, bit)[:8], 0, api.ErrCorrupt)
	}
	for _, length := range []uint32{api.MaxFrame + 1, 1 << 31, math.MaxUint32} {
		wantFault(t, "a length that is too great", head(length), 0, api.ErrCorrupt)
	}
	long := strings.Repeat("m", api.MaxFrame+1)
	wantFault(t, "a body that is too long", head(uint32(len(long)))+long+four(crc.Sum(long)), 0, api.ErrCorrupt)
}

func wantAll(t *testing.T, what, s string, bodies []string, at int, e api.Errno) {
	t.Helper()
	if l, place, err := wire.All(s); !slices.Equal(l, bodies) || place != at || err != e {
		t.Errorf("%s: %q, %d, %d, not %q, %d, %d", what, l, place, err, bodies, at, e)
	}
}

// P2.6
func TestAll(t *testing.T) {
	s := wire.Frame("a") + wire.Frame("b")
	wantAll(t, "nothing", "", nil, 0, api.OK)
	wantAll(t, "two", s, []string{"a", "b"}, 26, api.OK)
	wantAll(t, "an empty one", wire.Frame("")+s, []string{"", "a", "b"}, 38, api.OK)
	for n := range len(s) {
		want, whole := api.ErrTorn, []string{"a", "b"}[:n/13]
		if n%13 == 0 {
			want = api.OK
		}
		wantAll(t, "a beginning", s[:n], whole, n/13*13, want)
	}
	for bit := range 8 * len(s) {
		n := bit / 8 / 13
		wantAll(t, "a bit turned", turn(s, bit), []string{"a", "b"}[:n], 13*n, api.ErrCorrupt)
	}
}

// P2.6: many frames don't cost more, each, than few.
func TestManyFrames(t *testing.T) {
	const many = 100000
	l, at, e := wire.All(strings.Repeat(wire.Frame("x"), many))
	if len(l) != many || at != 13*many || e != api.OK {
		t.Errorf("All: %d, %d, %d", len(l), at, e)
	}
}
