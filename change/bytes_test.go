package change_test

import (
	"math"
	"math/rand"
	"slices"
	"strings"
	"testing"

	"moraine/api"
	"moraine/change"
	"moraine/wire"
)

// checkDecode holds what is decoded against the chapter's words.
func checkDecode(t *testing.T, s string, at int) {
	t.Helper()
	ch, to, err := change.Decode(s, at)
	if want, behind, told := plainDecode(s, at); ch != want || to != behind || err != told {
		t.Fatalf("%x at %d: %+v, %d, %d, not %+v, %d, %d", s, at, ch, to, err, want, behind, told)
	}
	if err != api.OK {
		return
	}
	if u, told := change.Encode(ch); u != s[at:to] || told != api.OK {
		t.Fatalf("%x at %d is decoded as %+v, which is %x", s, at, ch, u)
	}
}

// isNone says whether what Decode told is that there is none.
func isNone(ch api.Change, to int, err api.Errno) bool {
	return ch == api.Change{} && to == 0 && err == api.ErrWire
}

// P7.4: the bytes of some changes, byte by byte.
func TestBytesExamples(t *testing.T) {
	for _, x := range []struct {
		ch api.Change
		s  string
	}{
		{add("x", numType, "n"), "\x02\x00\x02x\x00\x02\x00\x02n\x00"}, {add("xy", listOf(api.Weak), ""), "\x02\x00\x04xy\x00\x0a\x08\x00\x00"},
		{drop("x"), "\x04\x02x\x00\x00\x00\x00\x00\x00"}, {rename("x", "yz"), "\x06\x02x\x04yz\x00\x00\x00\x00\x00"},
		{turn("n", textType, "text(n)"), "\x08\x02n\x00\x00\x04\x00\x0etext(n)\x00"},
		{split("name", "one", "more", textType, "left(name, 2)", "from(name, 3)"), "\x0a\x08name\x06one\x08more\x04\x00\x1aleft(name, 2)\x1afrom(name, 3)"},
		{split("n", "a", "b", refType, "", "r"), "\x0a\x02n\x02a\x02b\x06\x00\x00\x02r"},
		{index("x"), "\x0c\x02x\x00\x00\x00\x00\x00\x00"},
		{add("x", numType, " n  +( 01)"), "\x02\x00\x02x\x00\x02\x00\x14 n  +( 01)\x00"},
		{add("x", numType, "1"+strings.Repeat(" ", 199)), "\x02\x00\x02x\x00\x02\x00\x90\x031" + strings.Repeat(" ", 199) + "\x00"},
	} {
		if s, err := change.Encode(x.ch); s != x.s || err != api.OK {
			t.Errorf("%+v: %x, %d", x.ch, s, err)
		}
		if ch, to, err := change.Decode(x.s, 0); ch != x.ch || to != len(x.s) || err != api.OK {
			t.Errorf("%x: %+v, %d, %d", x.s, ch, to, err)
		}
	}
}

// P7.4: well formed changes have the bytes that the chapter tells, and others none, which none are read from.
func TestEncode(t *testing.T) {
	for _, ch := range formed() {
		for _, d := range append(spoilt(ch), ch) {
			s, err := change.Encode(d)
			if plainFormed(d) && (s != plainBytes(d) || err != api.OK) || !plainFormed(d) && (s != "" || err != api.ErrChange) {
				t.Errorf("%+v: %x, %d", d, s, err)
			}
			checkDecode(t, "\x02"+plainBytes(d)+"\x00", 1)
			if e, to, err := change.Decode(plainBytes(d), 0); !plainFormed(d) && !isNone(e, to, err) {
				t.Errorf("%+v is read as %+v, %d, %d", d, e, to, err)
			}
		}
	}
}

// P7.4: Decode undoes Encode, whatever stands around the bytes; what is cut off is none.
func TestDecodeUndoesEncode(t *testing.T) {
	for _, ch := range formed() {
		s, _ := change.Encode(ch)
		for _, ahead := range []string{"", "\x00", "\x02a\x00", "\x02a\x02\x80", "é"} {
			for _, behind := range []string{"", "\x00", "\x02a\x00", "\x80", "9\xff", s} {
				d, to, err := change.Decode(ahead+s+behind, len(ahead))
				if !change.Same(ch, d) || to != len(ahead)+len(s) || err != api.OK {
					t.Fatalf("%+v between %x and %x: %+v, %d, %d", ch, ahead, behind, d, to, err)
				}
			}
		}
		for i := range len(s) {
			if d, to, err := change.Decode(s[:i], 0); !isNone(d, to, err) {
				t.Fatalf("%d bytes of %+v: %+v, %d, %d", i, ch, d, to, err)
			}
		}
	}
}

// P7.4: places that are none.
func TestDecodePlaces(t *testing.T) {
	s, _ := change.Encode(drop("n"))
	for _, u := range []string{"", "\x00", s} {
		for _, at := range []int{math.MinInt, -len(u), -2, -1, len(u), len(u) + 1, len(u) + 2, math.MaxInt} {
			if at == 0 && u == s {
				continue
			}
			if ch, to, err := change.Decode(u, at); !isNone(ch, to, err) {
				t.Errorf("%x at %d: %+v, %d, %d", u, at, ch, to, err)
			}
		}
	}
}

// P7.4: parts that no well formed change's bytes have.
func TestDecodeErrors(t *testing.T) {
	text := func(s string) string { return wire.Num(len(s)) + s }
	for _, s := range []string{
		"", "\x00", "\x00\x00\x00\x00\x00\x00\x00\x00", "\x00\x02x\x00\x00\x00\x00\x00\x00", "\x0e\x02x\x00\x00\x00\x00\x00\x00", "\x01\x02x\x00\x00\x00\x00\x00\x00", "\x84\x00\x02x\x00\x00\x00\x00\x00\x00", "\x84\x80\x80\x80\x20\x02x\x00\x00\x00\x00\x00\x00", "\x84\x08\x02x\x00\x00\x00\x00\x00\x00",
		"\x04\x00\x00\x00\x00\x00\x00\x00", "\x04\x02X\x00\x00\x00\x00\x00\x00", "\x04\x82\x00x\x00\x00\x00\x00\x00\x00", "\x04\x01x\x00\x00\x00\x00\x00\x00", "\x04\x04x\x00\x00\x00\x00\x00\x00", "\x04" + text(strings.Repeat("x", 21)) + "\x00\x00\x00\x00\x00\x00", "\x04" + text(strings.Repeat("x", 10001)) + "\x00\x00\x00\x00\x00\x00",
		"\x04\x02x\x02y\x00\x00\x00\x00\x00", "\x04\x02x\x00\x02y\x00\x00\x00\x00", "\x04\x02x\x00\x00\x02\x00\x00\x00", "\x04\x02x\x00\x00\x00\x02\x00\x00", "\x04\x02x\x00\x00\x00\x00\x021\x00", "\x04\x02x\x00\x00\x00\x00\x00\x021", "\x04\x02x\x00\x00\x80\x00\x00\x00\x00", "\x04\x02x\x00\x00\x00\x00\x00\x80\x00",
		"\x02\x00\x02x\x00\x00\x00\x00\x00", "\x02\x00\x02x\x00\x0a\x00\x00\x00", "\x02\x00\x02x\x00\x0a\x0a\x00\x00", "\x02\x00\x02x\x00\x02\x02\x00\x00", "\x02\x00\x02x\x00\x0c\x00\x00\x00", "\x02\x00\x02x\x00\x02\x00\x02(\x00", "\x02\x00\x02x\x00\x02\x00\x02 \x00", "\x02\x00\x02x\x00\x02\x00" + text("1"+strings.Repeat(" ", 200)) + "\x00", "\x02\x00\x02x\x00\x02\x00" + text(strings.Repeat("-", 8)+"n") + "\x00",
		"\x0a\x02n\x02a\x00\x02\x00\x00\x00", "\x0a\x02n\x00\x02b\x02\x00\x00\x00", "\x0a\x00\x02a\x02b\x02\x00\x00\x00", "\x0a\x02n\x02a\x02b\x02\x00\x00\x02(", "\x06\x02n\x00\x00\x00\x00\x00\x00",
	} {
		if ch, to, err := change.Decode(s, 0); !isNone(ch, to, err) {
			t.Errorf("%x: %+v, %d, %d", s, ch, to, err)
		}
		checkDecode(t, "\x02\x80"+s, 2)
	}
}

// strands yields all texts of up to n of the bytes.
func strands(bytes string, n int, yield func(string)) {
	var grow func(string)
	grow = func(s string) {
		yield(s)
		if len(s) < n {
			for i := range len(bytes) {
				grow(s + bytes[i:i+1])
			}
		}
	}
	grow("")
}

// P7.4: all short bytes, and all short ends, are decoded as the chapter says.
func TestDecodeAllShort(t *testing.T) {
	var all []byte
	for i := range 256 {
		all = append(all, byte(i))
	}
	for i, s := range []string{"", "\x04\x02n\x00\x00", "\x02\x00\x02x\x00", "\x02\x00\x02x\x00\x02\x00"} {
		strands(string(all), 2-i%2, func(u string) { checkDecode(t, s+u+"\x00\x00", 0) })
	}
	strands("\x00\x02\x04n(_", 4, func(s string) {
		checkDecode(t, "\x02"+s+"\x02\x00\x00\x00", 0)
		checkDecode(t, "\x0a\x02n\x02a\x02b"+s, 0)
		checkDecode(t, "\x0a\x02n\x02a\x02b\x0a"+s+"\x021", 0)
		checkDecode(t, "\x06"+s+"\x00\x00\x00\x00\x00", 0)
	})
}

// spoil is a text with some of its bytes turned, taken out, doubled, or put in.
func spoil(r *rand.Rand, s string) string {
	const more = "\x00\x01\x02\x03\x04\x06\x08\x0a\x0c\x0e\x28\x2a+(1n_9A\x7f\x80\xc3\xff"
	b := []byte(s)
	for range 1 + r.Intn(3) {
		i, c := r.Intn(len(b)+1), more[r.Intn(len(more))]
		switch k := r.Intn(4); {
		case k == 0:
			b = slices.Insert(b, i, c)
		case i == len(b):
		case k == 1:
			b[i] = c
		case k == 2:
			b = slices.Delete(b, i, i+1)
		default:
			b = slices.Insert(b, i, b[i])
		}
	}
	return string(b)
}

// P7.4: bytes of well formed changes, spoilt, are decoded as the chapter says.
func TestDecodeSpoilt(t *testing.T) {
	r := rand.New(rand.NewSource(4))
	l := formed()
	for range 40000 {
		s, _ := change.Encode(l[r.Intn(len(l))])
		s = spoil(r, s)
		checkDecode(t, s, r.Intn(min(len(s), 3)+1))
	}
}

// P7.4: unlike changes have unlike bytes, and no change's bytes begin another one's.
func TestBytesUnlike(t *testing.T) {
	l := formed()
	for i, ch := range l {
		s, _ := change.Encode(ch)
		for k, d := range l {
			if u, _ := change.Encode(d); i != k && strings.HasPrefix(u, s) {
				t.Errorf("the bytes of %+v begin those of %+v", ch, d)
			}
		}
	}
}

// FuzzDecode: P7.4 of any bytes.
func FuzzDecode(f *testing.F) {
	for _, ch := range formed() {
		s, _ := change.Encode(ch)
		f.Add(s, 0)
	}
	f.Fuzz(func(t *testing.T, s string, at int) { checkDecode(t, s, at) })
}
