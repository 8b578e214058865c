package class_test

import (
	"math"
	"math/rand"
	"slices"
	"strings"
	"testing"
	"unsafe"

	"moraine/api"
	"moraine/class"
	"moraine/wire"
)

// plainBytes are a right class's bytes by the chapter's words.
func plainBytes(c api.Class) string {
	name := func(s string) string { return wire.Num(len(s)) + s }
	l := []string{name(c.Name), wire.Num(len(c.Fields))}
	for _, f := range c.Fields {
		n := 0
		if f.Indexed {
			n = 1
		}
		l = append(l, name(f.Name), wire.Num(f.Type.Kind), wire.Num(f.Type.Of), wire.Num(n))
	}
	return strings.Join(l, "")
}

// plainDecode reads part by part, and holds what it has read against the chapter's words.
func plainDecode(s string, at int) (c api.Class, to int, told api.Errno) {
	defer func() {
		if recover() != nil {
			c, to, told = api.Class{}, 0, api.ErrWire
		}
	}()
	ask := func(right bool) {
		if !right {
			panic("none")
		}
	}
	number := func(least, most int) int {
		n, behind, e := wire.ReadNum(s, at)
		ask(e == api.OK && n >= least && n <= most)
		at = behind
		return n
	}
	name := func() string {
		n := number(1, 20)
		ask(n <= len(s)-at)
		at += n
		return s[at-n : at]
	}
	c.Name = name()
	for n := number(0, 8); n > 0; n-- {
		f := api.Field{Name: name(), Type: api.Type{Kind: number(1, 5), Of: number(0, 4)}}
		f.Indexed = number(0, 1) == 1
		c.Fields = append(c.Fields, f)
	}
	ask(plainRight(c))
	return c, at, api.OK
}

// checkDecode holds what is decoded against the chapter's words.
func checkDecode(t *testing.T, s string, at int) {
	t.Helper()
	c, to, e := class.Decode(s, at)
	d, behind, told := plainDecode(s, at)
	if !class.Same(c, d) || to != behind || e != told {
		t.Fatalf("%x at %d: %+v, %d, %d, not %+v, %d, %d", s, at, c, to, e, d, behind, told)
	}
	if e != api.OK {
		return
	}
	if u, f := class.Encode(c); u != s[at:to] || f != api.OK || !class.Right(c) {
		t.Fatalf("%x at %d is decoded as %+v, which is %x", s, at, c, u)
	}
}

// P4.3: the bytes of some classes, byte by byte.
func TestEncodeExamples(t *testing.T) {
	for _, x := range []struct {
		c api.Class
		s string
	}{
		{of("a"), "\x02a\x00"}, {of("home_2"), "\x0chome_2\x00"}, {of("abcdefghijklmnopqrst"), "\x28abcdefghijklmnopqrst\x00"},
		{node(), "\x08node\x04\x02n\x02\x00\x00\x08next\x06\x00\x00"}, {pair(), "\x08pair\x04\x02a\x02\x00\x00\x02b\x06\x00\x00"},
		{of("a", indexed("b", numType), indexed("c", textType), indexed("d", refType), field("e", weakType)), "\x02a\x08\x02b\x02\x00\x02\x02c\x04\x00\x02\x02d\x06\x00\x02\x02e\x08\x00\x00"},
		{of("l", field("n", listOf(api.Num)), field("t", listOf(api.Text)), field("r", listOf(api.Ref)), field("w", listOf(api.Weak))), "\x02l\x08\x02n\x0a\x02\x00\x02t\x0a\x04\x00\x02r\x0a\x06\x00\x02w\x0a\x08\x00"},
	} {
		if s, e := class.Encode(x.c); s != x.s || e != api.OK {
			t.Errorf("%+v: %x, %d", x.c, s, e)
		}
		if c, to, e := class.Decode(x.s, 0); !class.Same(c, x.c) || to != len(x.s) || e != api.OK {
			t.Errorf("%x: %+v, %d, %d", x.s, c, to, e)
		}
	}
}

// P4.3: right classes have the bytes that the chapter tells, and others none.
func TestEncode(t *testing.T) {
	for _, c := range rightClasses() {
		if s, e := class.Encode(c); s != plainBytes(c) || e != api.OK {
			t.Errorf("%+v: %x, %d", c, s, e)
		}
	}
	for _, c := range wrongClasses() {
		if s, e := class.Encode(c); s != "" || e != api.ErrClass {
			t.Errorf("%+v: %x, %d", c, s, e)
		}
	}
}

// isNone says whether what Decode told is that there is none.
func isNone(c api.Class, to int, e api.Errno) bool {
	return class.Same(c, api.Class{}) && to == 0 && e == api.ErrWire
}

// P4.3, P4.4: Decode undoes Encode, whatever stands around the bytes; what is cut off is none.
func TestDecodeUndoesEncode(t *testing.T) {
	for _, c := range rightClasses() {
		s, _ := class.Encode(c)
		for _, ahead := range []string{"", "\x00", "\x02a\x00", "\x02a\x02\x80", "é"} {
			for _, behind := range []string{"", "\x00", "\x02a\x00", "\x80", "9\xff", "\x02x\x02\x00\x00"} {
				d, to, e := class.Decode(ahead+s+behind, len(ahead))
				if !class.Same(c, d) || to != len(ahead)+len(s) || e != api.OK {
					t.Fatalf("%+v between %x and %x: %+v, %d, %d", c, ahead, behind, d, to, e)
				}
			}
		}
		for i := range len(s) {
			if d, to, e := class.Decode(s[:i], 0); !isNone(d, to, e) {
				t.Fatalf("%d bytes of %+v: %+v, %d, %d", i, c, d, to, e)
			}
		}
	}
}

// P4.3: the bytes of classes that are not right are none, wherever they stand.
func TestDecodeWrong(t *testing.T) {
	for _, c := range wrongClasses() {
		s := plainBytes(c)
		for _, around := range []string{s, s + "\x00\x00\x00", s + "\x02a\x00"} {
			if d, to, e := class.Decode("\x00"+around, 1); !isNone(d, to, e) {
				t.Errorf("%+v is read as %+v, %d, %d", c, d, to, e)
			}
		}
	}
}

// P4.3: places that are none; at the end there is nothing to be read.
func TestDecodePlaces(t *testing.T) {
	s, _ := class.Encode(node())
	for _, u := range []string{"", "\x00", "\x02a\x00", s} {
		for _, at := range []int{math.MinInt, -len(u), -2, -1, len(u), len(u) + 1, len(u) + 2, math.MaxInt} {
			if c, to, e := class.Decode(u, at); !isNone(c, to, e) {
				t.Errorf("%x at %d: %+v, %d, %d", u, at, c, to, e)
			}
		}
	}
}

// P4.3: parts that no right class's bytes have.
func TestDecodeErrors(t *testing.T) {
	head, tail := "\x02a\x02\x02b", "\x02\x00\x00"
	name := func(s string) string { return wire.Num(len(s)) + s }
	if c, to, e := class.Decode(head+tail, 0); !class.Same(c, of("a", field("b", numType))) || to != 8 || e != api.OK {
		t.Errorf("%+v, %d, %d", c, to, e)
	}
	for _, s := range []string{
		"\x00\x00", "\x01a\x00", "\x04a", "\x82\x00a\x00", "\x02A\x00", "\x02_\x00", "\x02\x00", "\x02a", "\x2a" + strings.Repeat("a", 21) + "\x00", name(strings.Repeat("a", 10001)) + "\x00",
		"\x02a\x80\x00", "\x02a\x82\x00\x02b" + tail, "\x02a\x01", "\x02a\x01\x02b" + tail, "\x02a\x02", "\x02a\x12", "\x02a" + wire.Num(math.MaxInt), "\x02a" + wire.Num(math.MinInt), "\x02a" + wire.Num(1<<32), "\x02a" + wire.Num(256),
		"\x02a\x02\x00" + tail, "\x02a\x02\x02B" + tail, "\x02a\x02\x022" + tail, "\x02a\x02\x06é" + tail, "\x02a\x02\x01b" + tail, "\x02a\x02\x82\x00b" + tail, "\x02a\x02" + name(strings.Repeat("b", 21)) + tail,
		head, head + "\x02", head + "\x02\x00", head + "\x00\x00\x00", head + "\x01\x00\x00", head + "\x0c\x00\x00", head + "\x0a\x00\x00", head + "\x0a\x0a\x00", head + "\x0a\x01\x00", head + "\x02\x02\x00", head + "\x06\x06\x00", head + "\x82\x00\x00\x00", head + "\x02\x80\x00\x00",
		head + "\x02\x00\x01", head + "\x02\x00\x03", head + "\x02\x00\x04", head + "\x02\x00\x82\x00", head + "\x02\x00\x80\x00", head + "\x02\x00\x80", head + "\x02\x00" + wire.Num(math.MaxInt), head + "\x02\x00" + wire.Num(math.MinInt), head + "\x08\x00\x02", head + "\x0a\x02\x02", head + "\x0a\x06\x02",
		"\x02a\x04\x02b" + tail, "\x02a\x04\x02b" + tail + "\x02b" + tail, "\x02a\x04\x02b" + tail + "\x02b\x04\x00\x02", "\x02a\x06\x02b" + tail + "\x02c" + tail + "\x02b" + tail, head + wire.Num(257) + "\x00\x00", head + wire.Num(1<<32+1) + "\x00\x00",
	} {
		if c, to, e := class.Decode(s, 0); !isNone(c, to, e) {
			t.Errorf("%x: %+v, %d, %d", s, c, to, e)
		}
		checkDecode(t, "\x02\x80"+s, 2)
	}
	for n := range 12 {
		s := "\x02a" + wire.Num(n)
		for i := range n {
			s += "\x02" + string(rune('a'+i)) + tail
		}
		if c, to, e := class.Decode(s, 0); n <= 8 && (to != len(s) || e != api.OK || len(c.Fields) != n) || n > 8 && !isNone(c, to, e) {
			t.Errorf("%d fields: %+v, %d, %d", n, c, to, e)
		}
	}
}

// strands yields all texts of up to n of the bytes.
func strands(bytes string, n int, yield func(string)) {
	var grow func(string)
	grow = func(s string) {
		yield(s)
		if len(s) < n {
			for i := range len(bytes) {
				grow(s + bytes[i:i+1])
			}
		}
	}
	grow("")
}

// P4.3: all short bytes, and all short ends of a field, are decoded as the chapter says.
func TestDecodeAllShort(t *testing.T) {
	var all []byte
	for i := range 256 {
		all = append(all, byte(i))
	}
	strands(string(all), 2, func(s string) {
		for _, ahead := range []string{"", "\x02", "\x02a", "\x04a", "\x02a\x02\x02b", "\x02a\x02\x02b\x0a"} {
			checkDecode(t, ahead+s, 0)
			checkDecode(t, ahead+s+"\x00", 0)
		}
	})
	strands("\x00\x01\x02\x03\x04\x06\x08\x0a\x0c\x12\x7f\x80\x82", 4, func(s string) {
		checkDecode(t, "\x02a\x02\x02b"+s, 0)
		checkDecode(t, "\x02a\x04\x02b\x02\x00\x00"+s+"\x02\x00\x00", 0)
	})
	strands("\x00\x02\x04a_9", 7, func(s string) { checkDecode(t, s, 0) })
}

// spoil is a text with some of its bytes turned, taken out, doubled, or put in of those of more.
func spoil(r *rand.Rand, s, more string) string {
	b := []byte(s)
	for range 1 + r.Intn(3) {
		i := r.Intn(len(b) + 1)
		c := more[r.Intn(len(more))]
		switch k := r.Intn(4); {
		case k == 0:
			b = slices.Insert(b, i, c)
		case i == len(b):
		case k == 1:
			b[i] = c
		case k == 2:
			b = slices.Delete(b, i, i+1)
		default:
			b = slices.Insert(b, i, b[i])
		}
	}
	return string(b)
}

// P4.3: bytes of right classes, spoilt, are decoded as the chapter says, from each place.
func TestDecodeSpoilt(t *testing.T) {
	r := rand.New(rand.NewSource(4))
	l := rightClasses()
	for range 40000 {
		s, _ := class.Encode(l[r.Intn(len(l))])
		s = spoil(r, s, "\x00\x01\x02\x03\x04\x06\x08\x0a\x0c\x10\x12\x28\x2aabyz_09A\x7f\x80\xc3\xff")
		checkDecode(t, s, r.Intn(min(len(s), 3)+1))
	}
}

// P4.4: unlike classes have unlike bytes, and no class's bytes begin another one's.
func TestBytesUnlike(t *testing.T) {
	l := rightClasses()
	for i, c := range l {
		s, _ := class.Encode(c)
		for k, d := range l {
			if u, _ := class.Encode(d); i != k && strings.HasPrefix(u, s) {
				t.Errorf("the bytes of %+v begin those of %+v", c, d)
			}
		}
	}
}

// within says whether a shares memory with b.
func within(a, b string) bool {
	first, at := uintptr(unsafe.Pointer(unsafe.StringData(b))), uintptr(unsafe.Pointer(unsafe.StringData(a)))
	return at >= first && at < first+uintptr(len(b))
}

// R3: names that are answered are new memory, and no two answers share a list.
func TestDecodeMemory(t *testing.T) {
	s, _ := class.Encode(node())
	c, _, _ := class.Decode(s, 0)
	d, _, _ := class.Decode(s, 0)
	if within(c.Name, s) || within(c.Fields[0].Name, s) || within(c.Fields[1].Name, s) {
		t.Error("a name shares memory with what it is decoded from")
	}
	clear(c.Fields[:cap(c.Fields)])
	if !class.Same(d, node()) {
		t.Error("two answers share memory")
	}
}

// FuzzDecode: P4.3 of any bytes.
func FuzzDecode(f *testing.F) {
	for _, c := range rightClasses() {
		s, _ := class.Encode(c)
		f.Add(s, 0)
	}
	f.Fuzz(func(t *testing.T, s string, at int) { checkDecode(t, s, at) })
}
