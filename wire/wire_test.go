package wire_test

import (
	"encoding/binary"
	"math"
	"strings"
	"testing"

	"mahout/api"
	"mahout/wire"
)

// numbers are small ones, and those about the places where forms grow.
func numbers() []int {
	list := []int{math.MinInt, math.MinInt + 1, math.MaxInt - 1, math.MaxInt}
	for n := -300; n <= 300; n++ {
		list = append(list, n)
	}
	for bit := range 63 {
		for off := -2; off <= 2; off++ {
			list = append(list, 1<<bit+off, -(1<<bit)+off)
		}
	}
	return list
}

// formOf is the form of a number as another library writes it.
func formOf(n int) string {
	return string(binary.AppendVarint(nil, int64(n)))
}

func packed(put func(p *wire.Pack)) string {
	var p wire.Pack
	put(&p)
	return p.Bytes()
}

// P2.1
func TestFormsOfNumbers(t *testing.T) {
	for n, want := range map[int]string{
		0: "\x00", -1: "\x01", 1: "\x02", -2: "\x03", 63: "\x7e", -64: "\x7f", 64: "\x80\x01", -65: "\x81\x01", 8191: "\xfe\x7f", 8192: "\x80\x80\x01",
		math.MaxInt: "\xfe\xff\xff\xff\xff\xff\xff\xff\xff\x01",
		math.MinInt: "\xff\xff\xff\xff\xff\xff\xff\xff\xff\x01",
	} {
		if got := packed(func(p *wire.Pack) { p.Int(n) }); got != want {
			t.Errorf("Int(%d): %x, not %x", n, got, want)
		}
	}
	for _, n := range numbers() {
		if got := packed(func(p *wire.Pack) { p.Int(n) }); got != formOf(n) {
			t.Errorf("Int(%d): %x, not %x", n, got, formOf(n))
		}
	}
}

// P2.1
func TestFormsOfTextsAndBools(t *testing.T) {
	long := strings.Repeat("x", api.MaxText+1)
	for _, s := range []string{"", "a", "ab", "\x00\xff\"\n", strings.Repeat("y", 64), long} {
		if got := packed(func(p *wire.Pack) { p.Text(s) }); got != formOf(len(s))+s {
			t.Errorf("Text of %d bytes", len(s))
		}
	}
	if got := packed(func(p *wire.Pack) { p.Bool(false); p.Bool(true) }); got != "\x00\x01" {
		t.Errorf("Bool: %x", got)
	}
}

// P2.1
func TestFormsStandOneBehindTheOther(t *testing.T) {
	var p wire.Pack
	if p.Bytes() != "" {
		t.Errorf("an empty Pack: %x", p.Bytes())
	}
	p.Int(0)
	p.Int(-1)
	p.Int(64)
	p.Text("ab")
	for range 2 {
		if p.Bytes() != "\x00\x01\x80\x01\x04ab" {
			t.Errorf("Bytes: %x", p.Bytes())
		}
	}
	p.Bool(true)
	if p.Bytes() != "\x00\x01\x80\x01\x04ab\x01" {
		t.Errorf("Bytes of more: %x", p.Bytes())
	}
}

// P2.1: two Packs have nothing to do with one another, whichever way they came about.
func TestPacksAreApart(t *testing.T) {
	for size := range 70 { // whatever room a Pack may have left
		var one wire.Pack
		for range size {
			one.Bool(false)
		}
		begun := one.Bytes()
		two := one
		one.Text("one")
		two.Text("two, longer")
		three := one
		one = two
		one.Int(5)
		for i, c := range []struct{ got, want string }{
			{one.Bytes(), begun + "\x16two, longer\x0a"}, {two.Bytes(), begun + "\x16two, longer"}, {three.Bytes(), begun + "\x06one"},
		} {
			if c.got != c.want {
				t.Fatalf("%d bytes, Pack %d: %x, not %x", size, i+1, c.got, c.want)
			}
		}
	}
}

// P2.1: many forms don't cost more, each, than few.
func TestManyForms(t *testing.T) {
	var p wire.Pack
	const many = 300000
	for n := range many {
		p.Int(n)
	}
	u := wire.Open(p.Bytes())
	for n := range many {
		if got := u.Int(); got != n {
			t.Fatalf("number %d is %d", n, got)
		}
	}
	if u.End() != api.OK {
		t.Errorf("End: %d", u.End())
	}
}

// P2.1, P1
func TestNilPack(t *testing.T) {
	var p *wire.Pack
	p.Int(1)
	p.Text("a")
	p.Bool(true)
	if p.Bytes() != "" {
		t.Errorf("Bytes of nil: %x", p.Bytes())
	}
}

// P2.2
func TestNumbersAreTakenAsTheyWerePut(t *testing.T) {
	for _, n := range numbers() {
		u := wire.Open(formOf(n))
		if got := u.Int(); got != n || u.End() != api.OK {
			t.Errorf("%d is taken as %d, End %d", n, got, u.End())
		}
	}
}

// P2.2
func TestTextsAndBoolsAreTakenAsTheyWerePut(t *testing.T) {
	most := strings.Repeat("x", api.MaxText)
	var p wire.Pack
	for _, s := range []string{"", "ab", "\x00\xff", most} {
		p.Text(s)
		p.Bool(true)
		p.Bool(false)
	}
	u := wire.Open(p.Bytes())
	for _, s := range []string{"", "ab", "\x00\xff", most} {
		if u.Text() != s || !u.Bool() || u.Bool() {
			t.Errorf("a text of %d bytes and two bools", len(s))
		}
	}
	if u.End() != api.OK {
		t.Errorf("End: %d", u.End())
	}
	for _, s := range []string{"", "a", "ab", most} { // nothing stands behind it
		u := wire.Open(formOf(len(s)) + s)
		if u.Text() != s || u.End() != api.OK {
			t.Errorf("a text of %d bytes at the end: End %d", len(s), u.End())
		}
	}
}

// faultOf: what the words say of a number at the beginning of s.
func faultOf(s string) api.Errno {
	for i := range min(len(s), 10) {
		if i == 9 && s[i] > 1 {
			return api.ErrForm
		}
		if s[i] < 0x80 {
			if s[i] == 0 && i > 0 {
				return api.ErrForm
			}
			return api.OK
		}
	}
	return api.ErrShort
}

// P2.2
func TestNumbersFromAnyBytes(t *testing.T) {
	var list []string
	for a := range 256 {
		list = append(list, string([]byte{byte(a)}))
		for b := range 256 {
			list = append(list, string([]byte{byte(a), byte(b)}))
			for _, c := range []byte{0, 1, 0x7f, 0x80, 0xff} {
				list = append(list, string([]byte{byte(a), byte(b), c}))
			}
		}
	}
	for ahead := range 12 {
		for _, b := range []byte{0x80, 0x81, 0xff} {
			for last := range 256 {
				list = append(list, strings.Repeat(string([]byte{b}), ahead)+string([]byte{byte(last)}))
			}
		}
	}
	for _, s := range list {
		u, want := wire.Open(s), faultOf(s)
		got := u.Int()
		if want != api.OK {
			if got != 0 || u.End() != want {
				t.Fatalf("Int of %x: %d, End %d, not %d", s, got, u.End(), want)
			}
			continue
		}
		if form := formOf(got); !strings.HasPrefix(s, form) || (u.End() == api.OK) != (s == form) {
			t.Fatalf("Int of %x: %d, End %d", s, got, u.End())
		}
	}
}

// P2.2
func TestNumbersThatAreNone(t *testing.T) {
	nine := strings.Repeat("\xff", 9)
	for s, want := range map[string]api.Errno{
		"":                                   api.ErrShort,
		"\x80":                               api.ErrShort,
		nine:                                 api.ErrShort,
		"\x80\x00":                           api.ErrForm,
		"\x81\x80\x00":                       api.ErrForm,
		nine + "\x00":                        api.ErrForm,
		nine + "\x02":                        api.ErrForm,
		nine + "\x80":                        api.ErrForm,
		nine + "\x81":                        api.ErrForm,
		nine + "\xff\x01":                    api.ErrForm,
		strings.Repeat("\x80", 9) + "\x80":   api.ErrForm,
		strings.Repeat("\x80", 9) + "\x7f12": api.ErrForm,
	} {
		u := wire.Open(s)
		if n := u.Int(); n != 0 || u.End() != want {
			t.Errorf("Int of %x: %d, End %d, not %d", s, n, u.End(), want)
		}
		u = wire.Open(s)
		if text := u.Text(); text != "" || u.End() != want {
			t.Errorf("Text of %x: %q, End %d, not %d", s, text, u.End(), want)
		}
	}
}

// P2.2
func TestTextsThatAreNone(t *testing.T) {
	for s, want := range map[string]api.Errno{
		formOf(-1):                             api.ErrForm,
		formOf(-1) + "abc":                     api.ErrForm,
		formOf(math.MinInt):                    api.ErrForm,
		formOf(api.MaxText + 1):                api.ErrLong,
		formOf(math.MaxInt) + "abc":            api.ErrLong,
		formOf(api.MaxText):                    api.ErrShort,
		formOf(1):                              api.ErrShort,
		formOf(4) + "abc":                      api.ErrShort,
		formOf(64) + strings.Repeat("\x00", 9): api.ErrShort,
	} {
		u := wire.Open(s)
		if text := u.Text(); text != "" || u.End() != want {
			t.Errorf("Text of %x: %q, End %d, not %d", s, text, u.End(), want)
		}
	}
	u := wire.Open(formOf(api.MaxText+1) + strings.Repeat("x", api.MaxText+1))
	if text := u.Text(); text != "" || u.End() != api.ErrLong {
		t.Errorf("a text that is too long, all there: %d bytes, End %d", len(text), u.End())
	}
}

// P2.2
func TestBoolsFromAnyByte(t *testing.T) {
	for b := range 256 {
		u := wire.Open(string([]byte{byte(b)}))
		got, want := u.Bool(), api.OK
		if b > 1 {
			want = api.ErrForm
		}
		if got != (b == 1) || u.End() != want {
			t.Errorf("Bool of %02x: %v, End %d", b, got, u.End())
		}
	}
	u := wire.Open("")
	if u.Bool() || u.End() != api.ErrShort {
		t.Errorf("Bool of nothing: End %d", u.End())
	}
}

// P2.2: from the first error on nothing is taken, and no later error takes its place.
func TestNothingIsTakenBehindAnError(t *testing.T) {
	wrong := []struct {
		s    string
		take func(u *wire.Unpack)
		want api.Errno
	}{
		{"\x80\x00\x02\x02a\x01", func(u *wire.Unpack) { u.Int() }, api.ErrForm},
		{"\x01\x02a\x01", func(u *wire.Unpack) { u.Text() }, api.ErrForm},
		{formOf(api.MaxText+1) + "\x02a\x01", func(u *wire.Unpack) { u.Text() }, api.ErrLong},
		{"\x06a", func(u *wire.Unpack) { u.Text() }, api.ErrShort},
		{"\x02\x02a", func(u *wire.Unpack) { u.Bool() }, api.ErrForm},
		{"\x01", func(u *wire.Unpack) { u.Bool(); u.Bool() }, api.ErrShort},
	}
	for _, w := range wrong {
		u := wire.Open(w.s)
		w.take(u)
		for range 3 {
			if n := u.Int(); n != 0 {
				t.Errorf("%x: Int %d", w.s, n)
			}
			if s := u.Text(); s != "" {
				t.Errorf("%x: Text %q", w.s, s)
			}
			if u.Bool() {
				t.Errorf("%x: Bool", w.s)
			}
			if u.End() != w.want {
				t.Errorf("%x: End %d, not %d", w.s, u.End(), w.want)
			}
		}
	}
}

// P2.3
func TestEnd(t *testing.T) {
	if e := wire.Open("").End(); e != api.OK {
		t.Errorf("End of nothing: %d", e)
	}
	u := wire.Open("\x02\x02a\x01")
	for _, take := range []func(){func() { u.Int() }, func() { u.Text() }, func() { u.Bool() }} {
		if u.End() != api.ErrTail || u.End() != api.ErrTail {
			t.Errorf("End ahead of the end: %d", u.End())
		}
		take()
	}
	if u.End() != api.OK || u.End() != api.OK {
		t.Errorf("End: %d", u.End())
	}
	if u.Int(); u.End() != api.ErrShort {
		t.Errorf("End behind a number that isn't there: %d", u.End())
	}
}

// P2.2: two Unpacks have nothing to do with one another.
func TestUnpacksAreApart(t *testing.T) {
	one, two := wire.Open("\x02\x04"), wire.Open("\x02\x04")
	three := *one
	one.Int()
	one.Bool()
	if two.Int() != 1 || two.Int() != 2 || two.End() != api.OK {
		t.Errorf("the second Unpack: End %d", two.End())
	}
	if three.Int() != 1 || three.Int() != 2 || three.End() != api.OK || one.End() != api.ErrForm {
		t.Errorf("a copy of the first: End %d", three.End())
	}
}

// P2.3, P1
func TestNilUnpack(t *testing.T) {
	var u *wire.Unpack
	for range 2 {
		if u.Int() != 0 || u.Text() != "" || u.Bool() || u.End() != api.ErrArg {
			t.Errorf("a nil Unpack: End %d", u.End())
		}
	}
	if wire.Open("") == nil || wire.Open("\xff") == nil {
		t.Error("Open is nil")
	}
}
