package record_test

import (
	"fmt"
	"math"
	"math/rand"
	"slices"
	"strings"
	"testing"

	"mahout/api"
	"mahout/record"
	"mahout/tree"
	"mahout/wire"
)

// top is how many numbers or texts are tried of each kind.
const top = 25

// upFrom: all from n to top, by steps.
func upFrom(n, step int) []int {
	var all []int
	for ; n <= top; n += step {
		all = append(all, n)
	}
	return all
}

func just(n int) []int { return []int{n} }

// kind is a row of the chapter's table.
type kind struct {
	is, number     int
	numbers, texts []int // how many there may be
}

func kinds() []kind {
	return []kind{
		{record.Change, 1, just(9), just(2)},
		{record.Look, 2, just(0), just(1)},
		{record.Names, 3, just(0), just(1)},
		{record.Answer, 4, upFrom(2, 1), upFrom(0, 1)},
		{record.Place, 5, upFrom(1, 1), just(0)},
		{record.Find, 6, upFrom(0, 3), just(0)},
		{record.Spots, 7, upFrom(1, 1), just(0)},
		{record.Store, 8, upFrom(4, 1), just(1)},
		{record.Stored, 9, upFrom(1, 1), just(0)},
		{record.Fetch, 10, just(3), just(0)},
		{record.Data, 11, just(1), just(1)},
		{record.Beat, 12, upFrom(1, 3), just(0)},
		{record.Orders, 13, upFrom(0, 5), just(0)},
		{record.Poll, 14, upFrom(3, 4), just(0)},
		{record.Task, 15, upFrom(0, 1), upFrom(0, 1)},
		{record.Shuffle, 16, just(4), just(0)},
		{record.Pairs, 17, just(1), upFrom(0, 2)},
	}
}

// wrongKinds aren't in the table.
func wrongKinds() []int {
	return []int{0, -1, -17, 18, 19, 100, 1 << 32, 1<<32 + 1, math.MaxInt, math.MinInt, math.MinInt + 1}
}

// sized is a message with so many numbers and texts.
func sized(kind, numbers, texts int) record.Message {
	return record.Message{Kind: kind, Client: 1, Call: 2, N: make([]int, numbers), T: make([]string, texts)}
}

// forms of a message, as the chapter says, whether it is valid or not.
func forms(m record.Message) string {
	var p wire.Pack
	for _, n := range []int{m.Kind, m.Client, m.Call, len(m.N)} {
		p.Int(n)
	}
	for _, n := range m.N {
		p.Int(n)
	}
	p.Int(len(m.T))
	for _, s := range m.T {
		p.Text(s)
	}
	return p.Bytes()
}

// numbers laid one behind the other.
func numbers(all ...int) string {
	var p wire.Pack
	for _, n := range all {
		p.Int(n)
	}
	return p.Bytes()
}

func same(a, b record.Message) bool {
	return a.Kind == b.Kind && a.Client == b.Client && a.Call == b.Call && slices.Equal(a.N, b.N) && slices.Equal(a.T, b.T)
}

// told is the beginning of what there is to say of a message, or of a change.
func told(what any) string {
	s := fmt.Sprint(what)
	return s[:min(len(s), 300)]
}

// copied is a message of its own.
func copied(m record.Message) record.Message {
	m.N, m.T = slices.Clone(m.N), slices.Clone(m.T)
	return m
}

// The chapter's table: the kinds' numbers.
func TestKinds(t *testing.T) {
	for _, k := range kinds() {
		if k.is != k.number {
			t.Errorf("kind %d is %d", k.number, k.is)
		}
	}
}

// P9.1, and of each shape P9.2 and P9.3: what isn't valid is neither encoded nor decoded.
func TestShapes(t *testing.T) {
	for _, k := range kinds() {
		for n := range top + 1 {
			for texts := range top + 1 {
				m := sized(k.number, n, texts)
				want := slices.Contains(k.numbers, n) && slices.Contains(k.texts, texts)
				if record.Valid(m) != want {
					t.Errorf("Valid of kind %d, %d numbers, %d texts: %t", k.number, n, texts, !want)
				}
				if want {
					wantBack(t, m)
				} else {
					wantNone(t, m)
				}
			}
		}
	}
}

// P9.1
func TestWrongKinds(t *testing.T) {
	for _, kind := range wrongKinds() {
		for n := range 10 {
			for texts := range 3 {
				wantNone(t, sized(kind, n, texts))
			}
		}
	}
	wantNone(t, record.Message{})
}

// P9.1: lists that are nil or empty count as the same, and what stands in a message is of no matter.
func TestValid(t *testing.T) {
	for _, m := range []record.Message{
		{Kind: record.Task},
		{Kind: record.Task, N: []int{}, T: []string{}},
		{Kind: record.Task, Client: -1, Call: math.MinInt, N: []int{math.MinInt, math.MaxInt}},
		{Kind: record.Find, Client: math.MaxInt, Call: -5, T: []string{}},
		{Kind: record.Change, N: []int{-1, -2, -3, -4, -5, -6, -7, -8, -9}, T: []string{"no path", "\xff\x00"}},
		{Kind: record.Look, T: []string{strings.Repeat("x", api.MaxText+1)}},
	} {
		if !record.Valid(m) {
			t.Errorf("Valid of %s", told(m))
		}
	}
}

// P9.1: many numbers and texts.
func TestValidOfMany(t *testing.T) {
	for _, c := range []struct {
		kind, numbers, texts int
		want                 bool
	}{
		{record.Answer, 100000, 100000, true},
		{record.Task, 100000, 100000, true},
		{record.Find, 99999, 0, true},
		{record.Find, 100000, 0, false},
		{record.Orders, 100000, 0, true},
		{record.Orders, 100001, 0, false},
		{record.Beat, 100000, 0, true},
		{record.Beat, 99999, 0, false},
		{record.Poll, 100003, 0, true},
		{record.Poll, 100000, 0, false},
		{record.Pairs, 1, 100000, true},
		{record.Pairs, 1, 100001, false},
		{record.Change, 100000, 2, false},
	} {
		if got := record.Valid(sized(c.kind, c.numbers, c.texts)); got != c.want {
			t.Errorf("Valid of %v: %t", c, got)
		}
	}
}

// The chapter's example.
func TestExample(t *testing.T) {
	m := record.Message{Kind: record.Look, Client: 1, Call: 2, T: []string{"/"}}
	if got := record.Encode(m); got != "\x04\x02\x04\x00\x02\x02\x2F" {
		t.Errorf("Encode: %x", got)
	}
	if got, e := record.Decode("\x04\x02\x04\x00\x02\x02\x2F"); !same(got, m) || e != api.OK {
		t.Errorf("Decode: %v, %d", got, e)
	}
}

// wantBack: a valid message is encoded, and decoded as it was.
func wantBack(t *testing.T, m record.Message) {
	t.Helper()
	before := copied(m)
	s := record.Encode(m)
	if s != forms(m) || s == "" {
		t.Errorf("Encode(%s): %.200x", told(m), s)
	}
	if got, e := record.Decode(s); !same(got, m) || e != api.OK {
		t.Errorf("Decode(%.200x): %s, %d, not %s", s, told(got), e, told(m))
	}
	if !same(m, before) {
		t.Errorf("%s is %s now", told(before), told(m))
	}
}

// wantNone: a message that isn't valid has no bytes, and its forms are no message.
func wantNone(t *testing.T, m record.Message) {
	t.Helper()
	if record.Valid(m) {
		t.Errorf("Valid(%s)", told(m))
	}
	if s := record.Encode(m); s != "" {
		t.Errorf("Encode(%s): %.200x", told(m), s)
	}
	refuses(t, forms(m), api.ErrForm)
	refuses(t, forms(m)+"\x00", api.ErrTail)
}

// refuses: Decode answers the error and nothing else.
func refuses(t *testing.T, s string, want api.Errno) {
	t.Helper()
	if m, e := record.Decode(s); !same(m, record.Message{}) || e != want {
		t.Errorf("Decode(%.200x): %s, %d, not %d", s, told(m), e, want)
	}
}

// P9.2, P9.3
func TestThereAndBack(t *testing.T) {
	long := strings.Repeat("long", 100)
	for _, m := range []record.Message{
		{Kind: record.Task},
		{Kind: record.Task, Client: math.MinInt, Call: math.MaxInt, N: []int{0, -1, 1, 63, 64, -64, -65}, T: []string{"", "\x00\xff", long}},
		{Kind: record.Answer, Client: -1, Call: 0, N: []int{math.MaxInt, math.MinInt}, T: []string{long, "", long}},
		{Kind: record.Answer, Client: 4, Call: 300, N: []int{0, 1, 2, 3}, T: []string{"a", "b"}},
		{Kind: record.Pairs, N: []int{5}, T: []string{"key", "value", "", ""}},
		{Kind: record.Data, Client: 1, N: []int{-70}, T: []string{strings.Repeat("x", api.MaxBlock)}},
		{Kind: record.Data, Client: 1, N: []int{0}, T: []string{strings.Repeat("x", api.MaxText)}},
		{Kind: record.Task, N: make([]int, 100000), T: make([]string, 100000)},
	} {
		wantBack(t, m)
	}
	if got := record.Encode(record.Message{Kind: record.Task}); got != "\x1E\x00\x00\x00\x00" {
		t.Errorf("Encode: %x", got)
	}
}

// anyMessage is a valid message of any kind.
func anyMessage(r *rand.Rand) record.Message {
	k := kinds()[r.Intn(17)]
	n, texts := r.Intn(5), r.Intn(5)
	m := sized(k.number, k.numbers[n%len(k.numbers)], k.texts[texts%len(k.texts)])
	m.Client, m.Call = r.Intn(20)-9, r.Int()>>r.Intn(64)
	for i := range m.N {
		m.N[i] = int(r.Uint64()) >> r.Intn(64)
	}
	for i := range m.T {
		m.T[i] = strings.Repeat(string(rune(r.Intn(300))), r.Intn(100))
	}
	return m
}

// P9.2, P9.3
func TestAnyMessages(t *testing.T) {
	r := rand.New(rand.NewSource(1))
	for range 5000 {
		wantBack(t, anyMessage(r))
	}
}

// P9.2, P9.3: a text that is too long for the wire is encoded, but not decoded.
func TestTextsThatAreTooLong(t *testing.T) {
	long := strings.Repeat("x", api.MaxText+1)
	for _, texts := range [][]string{{long}, {"a", long}, {long, "a"}, {"a", long, "b"}} {
		m := record.Message{Kind: record.Task, N: []int{1}, T: texts}
		s := record.Encode(m)
		if s != forms(m) {
			t.Errorf("Encode of %d bytes: %d bytes", len(long), len(s))
		}
		refuses(t, s, api.ErrLong)
		refuses(t, s[:len(s)/2], api.ErrLong) // ahead of what is missing behind it
	}
}

// full is a message whose numbers and texts are many enough that a beginning of it isn't below their number.
func full() record.Message {
	return record.Message{Kind: record.Task, Client: 300, Call: 70000, N: []int{1, -1, 9000}, T: []string{"ab", "", "cdefg"}}
}

// P9.3: bytes that end too early, wherever, and bytes that are left.
func TestDecodeOfABeginning(t *testing.T) {
	s := forms(full())
	for n := range len(s) {
		refuses(t, s[:n], api.ErrShort)
	}
	for _, tail := range []string{"\x00", "\x80", "x", "\xff\xff\xff\xff\xff\xff\xff\xff\xff\xff\xff", s} {
		refuses(t, s+tail, api.ErrTail)
	}
}

// P9.3: bytes that are no forms, wherever.
func TestDecodeOfNoForms(t *testing.T) {
	behind := strings.Repeat("\x00", 50)
	for _, wrong := range []string{"\x80\x00", "\xff\x80\x00", strings.Repeat("\xff", 9) + "\x02", strings.Repeat("\x80", 10)} {
		for n := range 4 { // the kind, the client, the call, the number of numbers
			refuses(t, numbers(30, 1, 2, 3)[:n]+wrong+behind, api.ErrForm)
		}
		refuses(t, numbers(15, 1, 2, 3, 7, 7)+wrong+behind, api.ErrForm)     // a number
		refuses(t, numbers(15, 1, 2, 1, 7)+wrong+behind, api.ErrForm)        // the number of texts
		refuses(t, numbers(15, 1, 2, 1, 7, 2)+wrong+behind, api.ErrForm)     // the length of a text
		refuses(t, numbers(15, 1, 2, 0, 2, 1)+"x"+wrong+behind, api.ErrForm) // that of the next one
	}
	for _, length := range []int{-1, math.MinInt} {
		refuses(t, numbers(15, 1, 2, 0, 1, length)+behind, api.ErrForm)
	}
	refuses(t, numbers(15, 1, 2, 0, 1, api.MaxText+1), api.ErrLong)
	refuses(t, numbers(15, 1, 2, 0, 1, api.MaxText), api.ErrShort)
	refuses(t, numbers(15, 1, 2, 0, 1, math.MaxInt)+behind, api.ErrLong)
	refuses(t, "", api.ErrShort)
	refuses(t, strings.Repeat("\xff", 9), api.ErrShort)
}

// P9.3: numbers of numbers and of texts that are below 0 or above the length of what is decoded.
func TestDecodeOfWrongCounts(t *testing.T) {
	for _, ahead := range []string{numbers(15, 1, 2), numbers(15, 1, 2, 0), numbers(15, 1, 2, 2, 500, -500)} {
		for _, behind := range []string{"", "\x00", "\xff", strings.Repeat("\x00", 50)} {
			for _, n := range []int{-1, -2, math.MinInt, math.MaxInt, 1 << 32, len(ahead + behind + "xx")} {
				refuses(t, ahead+numbers(n)+behind, api.ErrForm)
			}
		}
		for _, size := range []int{20, 30, 50, 100, 1000} {
			behind := strings.Repeat("\x00", size)
			length := len(ahead+numbers(size)) + size // of the counts tried each has as many bytes as this one
			refuses(t, ahead+numbers(length+1)+behind, api.ErrForm)
			refuses(t, ahead+numbers(length)+behind, api.ErrShort) // just as many as bytes are as yet no fault
		}
	}
}

// P9.3: the first fault, in the order of the bytes; then ErrTail; then whether it is valid.
func TestDecodeOrder(t *testing.T) {
	refuses(t, numbers(15, 1, 2, -1)+"\x80\x00", api.ErrForm)
	refuses(t, numbers(15, 1, 2, 1)+"\x80", api.ErrShort)
	refuses(t, numbers(0, 1, 2, 1), api.ErrShort)                       // no kind, and short
	refuses(t, numbers(0, 1, 2, 0, 1, api.MaxText+1), api.ErrLong)      // no kind, and long
	refuses(t, numbers(0, 1, 2, 0, 0, 0), api.ErrTail)                  // no kind, and a tail
	refuses(t, numbers(0, 1, 2, 0, 0), api.ErrForm)                     // no kind alone
	refuses(t, numbers(2, 1, 2, 0, 2, 0, 0), api.ErrForm)               // a text too many
	refuses(t, numbers(2, 1, 2, 0, 2, 0), api.ErrShort)                 // .. which isn't there
	refuses(t, numbers(2, 1, 2, 0, 0, 1, 0), api.ErrTail)               // a text too few
	refuses(t, numbers(15, 1, 2, 0, 2, api.MaxText+1, -1), api.ErrLong) // the first of two wrong texts
	refuses(t, numbers(15, 1, 2, 0, 2, -1, api.MaxText+1), api.ErrForm)
	refuses(t, numbers(15, 1, 2, 1)+strings.Repeat("\xff", 10)+numbers(-1), api.ErrForm)
}

// P9.3: of any bytes that Decode takes Encode makes the same ones; of the others it answers an error alone.
func TestAnyBytes(t *testing.T) {
	r := rand.New(rand.NewSource(1))
	taken := 0
	for range 100000 {
		s := []byte(record.Encode(anyMessage(r)))
		for range r.Intn(3) {
			switch i := r.Intn(len(s)); r.Intn(3) {
			case 0:
				s[i] ^= 1 << r.Intn(8)
			case 1:
				s = slices.Insert(slices.Delete(s, i, i+1), i, byte(r.Intn(8)))
			default:
				s = slices.Insert(s, i, byte(r.Intn(256)))
			}
		}
		m, e := record.Decode(string(s))
		switch {
		case e != api.OK:
			refuses(t, string(s), e)
		case !record.Valid(m) || record.Encode(m) != string(s):
			t.Fatalf("Decode(%x): %v", s, m)
		default:
			taken++
		}
	}
	if taken < 30000 {
		t.Errorf("only %d were taken", taken)
	}
}

// P1: however much is told and isn't there, it ends soon.
func TestDecodeOfMuch(t *testing.T) {
	const much = 1 << 24
	for _, ahead := range []string{numbers(15, 1, 2, much), numbers(15, 1, 2, 0, much)} {
		refuses(t, ahead+strings.Repeat("\xff", much), api.ErrForm)
		refuses(t, ahead+strings.Repeat("\x81", 3)+strings.Repeat("\xff", much), api.ErrForm)
	}
}

// op is a change of which no two numbers are the same.
func op() tree.Op {
	block := api.Block{Client: 3, Call: 4, Try: 5}
	return tree.Op{Kind: 1, Path: "/a", To: "/b", Client: 2, Piece: api.Piece{Block: block, Size: 6, Sum: 7}, Quota: 8}
}

// P9.4
func TestOf(t *testing.T) {
	want := record.Message{Kind: 1, Client: 10, Call: 11, N: []int{1, 2, 3, 4, 5, 6, 7, 8, 9}, T: []string{"/a", "/b"}}
	if got := record.Of(10, 11, 9, op()); !same(got, want) {
		t.Errorf("Of: %v", got)
	}
	if got, e := record.Op(want); got != op() || e != api.OK {
		t.Errorf("Op: %v, %d", got, e)
	}
}

// P9.4: Op of Of is the op, whatever its numbers are, and whoever asks.
func TestOpOfOf(t *testing.T) {
	ends := []int{0, 1, -1, 9, math.MaxInt, math.MinInt}
	texts := []string{"", "/", "no path", "\xff\x00", strings.Repeat("x", api.MaxText+1)}
	sums := []uint32{0, 1, 1<<31 - 1, 1 << 31, math.MaxUint32}
	r := rand.New(rand.NewSource(1))
	end := func() int { return ends[r.Intn(len(ends))] }
	for range 2000 {
		block := api.Block{Client: end(), Call: end(), Try: end()}
		piece := api.Piece{Block: block, Size: end(), Sum: sums[r.Intn(len(sums))]}
		want := tree.Op{Kind: end(), Path: texts[r.Intn(len(texts))], To: texts[r.Intn(len(texts))], Client: end(), Piece: piece, Quota: end()}
		client, call, boot := end(), end(), end()
		m := record.Of(client, call, boot, want)
		if m.Kind != record.Change || m.Client != client || m.Call != call || !record.Valid(m) || m.N[8] != boot {
			t.Fatalf("Of(%d, %d, %d, ..): %s", client, call, boot, told(m))
		}
		if got, e := record.Op(m); got != want || e != api.OK {
			t.Fatalf("Op: %s, %d, not %s", told(got), e, told(want))
		}
	}
}

// wantNoOp: a message is no change.
func wantNoOp(t *testing.T, m record.Message) {
	t.Helper()
	if got, e := record.Op(m); got != (tree.Op{}) || e != api.ErrForm {
		t.Errorf("Op(%v): %v, %d", m, got, e)
	}
}

// P9.4
func TestOpOfNoChange(t *testing.T) {
	for _, k := range append(wrongKinds(), 2, 3, 4, 5, 6, 7, 8, 9, 10, 11, 12, 13, 14, 15, 16, 17) {
		m := record.Of(10, 11, 9, op())
		m.Kind = k // Answer and Task are valid with these numbers and texts too
		wantNoOp(t, m)
	}
	for n := range 12 {
		for texts := range 5 {
			if n != 9 || texts != 2 {
				wantNoOp(t, sized(record.Change, n, texts))
			}
		}
	}
	wantNoOp(t, record.Message{})
}

// P9.4
func TestOpOfWrongSums(t *testing.T) {
	for _, sum := range []int{-1, math.MinInt, 1 << 32, 1<<32 + 7, math.MaxInt} {
		m := record.Of(10, 11, 9, op())
		m.N[6] = sum
		wantNoOp(t, m)
	}
	for _, sum := range []int{0, 1, 1 << 31, 1<<32 - 1} {
		m := record.Of(10, 11, 9, op())
		m.N[6] = sum
		want := op()
		want.Piece.Sum = uint32(sum)
		if got, e := record.Op(m); got != want || e != api.OK {
			t.Errorf("Op with the sum %d: %v, %d", sum, got, e)
		}
	}
}

// What is handed in stays, the room behind a list too, and what is answered is new.
func TestMemory(t *testing.T) {
	n, texts := []int{1, 2, 3, 4}, []string{"a", "b", "c"}
	m := record.Message{Kind: record.Answer, N: n[:2], T: texts[:1]}
	s := record.Encode(m)
	one, _ := record.Decode(s)
	two, _ := record.Decode(s)
	one.N[0], one.T[0] = 99, "z"
	if !same(two, m) || !slices.Equal(n, []int{1, 2, 3, 4}) || !slices.Equal(texts, []string{"a", "b", "c"}) {
		t.Errorf("%v, %v, %v", two, n, texts)
	}
	change := record.Of(10, 11, 9, op())
	other := record.Of(10, 11, 9, op())
	other.N[0], other.T[0] = 99, "z"
	before := copied(change)
	if _, e := record.Op(change); e != api.OK || !same(change, before) || change.N[0] != 1 || change.T[0] != "/a" {
		t.Errorf("%v, not %v", change, before)
	}
}
