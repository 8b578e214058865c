package val_test

import (
	"math"
	"math/rand"
	"slices"
	"strings"
	"testing"
	"unicode/utf8"
	"unsafe"

	"moraine/api"
	"moraine/val"
	"moraine/wire"
)

// plainBytes are a right value's bytes by the chapter's words.
func plainBytes(v api.Val) string {
	l := []string{wire.Num(v.Kind)}
	if v.Kind == api.Num || v.Kind == api.Ref || v.Kind == api.Weak {
		l = append(l, wire.Num(v.N))
	}
	if v.Kind == api.Text {
		l = append(l, wire.Num(len(v.S)), v.S)
	}
	if v.Kind == api.List {
		l = append(l, wire.Num(len(v.L)))
	}
	for _, w := range v.L {
		l = append(l, plainBytes(w))
	}
	return strings.Join(l, "")
}

// plainDecode reads part by part, and is left with the first error.
func plainDecode(s string, at int) (v api.Val, to int, told api.Errno) {
	if at < 0 || at > len(s) {
		return v, 0, api.ErrArg
	}
	defer func() {
		if r := recover(); r != nil {
			v, to, told = api.Val{}, 0, r.(api.Errno)
		}
	}()
	ask := func(right bool, e api.Errno) {
		if !right {
			panic(e)
		}
	}
	number := func(least, most int) int {
		n, behind, e := wire.ReadNum(s, at)
		ask(e == api.OK, api.ErrWire)
		ask(n >= least && n <= most, api.ErrVal)
		at = behind
		return n
	}
	single := func(kind int) api.Val {
		w := api.Val{Kind: kind}
		switch kind {
		case api.Num:
			w.N = number(-1000000000000000, 1000000000000000)
		case api.Ref, api.Weak:
			w.N = number(-20, 100000)
			ask(w.N != 0, api.ErrVal)
		case api.Text:
			u, behind, e := wire.ReadText(s, at)
			ask(e == api.OK, api.ErrWire)
			ask(len(u) < 61 && utf8.ValidString(u), api.ErrVal)
			for i := range len(u) {
				ask(u[i] > 0x1f && u[i] != 0x7f, api.ErrVal)
			}
			at, w.S = behind, u
		}
		return w
	}
	kind := number(0, 5)
	if kind < 5 {
		return single(kind), at, api.OK
	}
	v.Kind = kind
	for n := number(0, 12); n > 0; n-- {
		v.L = append(v.L, single(number(0, 4)))
	}
	return v, at, api.OK
}

// checkDecode holds what is decoded against the chapter's words.
func checkDecode(t *testing.T, s string, at int) {
	t.Helper()
	v, to, e := val.Decode(s, at)
	w, behind, told := plainDecode(s, at)
	if !val.Same(v, w) || to != behind || e != told {
		t.Fatalf("%x at %d: %+v, %d, %d, not %+v, %d, %d", s, at, v, to, e, w, behind, told)
	}
	if e != api.OK {
		return
	}
	if u, f := val.Encode(v); u != s[at:to] || f != api.OK || !val.Right(v) {
		t.Fatalf("%x at %d is decoded as %+v, which is %x", s, at, v, u)
	}
}

// P3.4: the bytes of the chapter's example, and of values of each kind.
func TestEncodeExamples(t *testing.T) {
	for _, x := range []struct {
		v api.Val
		s string
	}{
		{num(1), "\x02\x02"}, {api.Val{}, "\x00"}, {num(-1), "\x02\x01"}, {num(300), "\x02\xd8\x04"}, {text(""), "\x04\x00"}, {text("aé"), "\x04\x06a\xc3\xa9"},
		{ref(5), "\x06\x0a"}, {weak(-20), "\x08\x27"}, {list(), "\x0a\x00"}, {list(api.Val{}, num(0), text("b"), ref(1), weak(64)), "\x0a\x0a\x00\x02\x00\x04\x02b\x06\x02\x08\x80\x01"},
	} {
		if s, e := val.Encode(x.v); s != x.s || e != api.OK {
			t.Errorf("%+v: %x, %d", x.v, s, e)
		}
		if v, to, e := val.Decode(x.s, 0); !val.Same(v, x.v) || to != len(x.s) || e != api.OK {
			t.Errorf("%x: %+v, %d, %d", x.s, v, to, e)
		}
	}
}

// P3.4: right values have the bytes that the chapter tells, and others none.
func TestEncode(t *testing.T) {
	for _, v := range rightVals() {
		if s, e := val.Encode(v); s != plainBytes(v) || e != api.OK {
			t.Errorf("%+v: %x, %d", v, s, e)
		}
	}
	for _, v := range wrongVals() {
		if s, e := val.Encode(v); s != "" || e != api.ErrVal {
			t.Errorf("%+v: %x, %d", v, s, e)
		}
	}
}

// P3.5, P3.7: Decode undoes Encode, wherever the bytes stand; what is cut off is refused.
func TestDecodeUndoesEncode(t *testing.T) {
	for _, v := range rightVals() {
		s, _ := val.Encode(v)
		for _, ahead := range []string{"", "\x00", "\x0a\x02\x80", "é"} {
			for _, behind := range []string{"", "\x00", "\x02\x02", "\x80", "9\xff"} {
				w, to, e := val.Decode(ahead+s+behind, len(ahead))
				if !val.Same(v, w) || to != len(ahead)+len(s) || e != api.OK {
					t.Fatalf("%+v between %x and %x: %+v, %d, %d", v, ahead, behind, w, to, e)
				}
			}
		}
		for i := range len(s) {
			if w, to, e := val.Decode(s[:i], 0); !val.Same(w, api.Val{}) || to != 0 || e != api.ErrWire {
				t.Fatalf("%d bytes of %+v: %+v, %d, %d", i, v, w, to, e)
			}
		}
	}
}

// P3.5: places that are none; at the end there is nothing to be read.
func TestDecodePlaces(t *testing.T) {
	for _, s := range []string{"", "\x00", "\x02\x02"} {
		for _, at := range []int{math.MinInt, -2, -1, len(s) + 1, len(s) + 2, math.MaxInt} {
			if v, to, e := val.Decode(s, at); !val.Same(v, api.Val{}) || to != 0 || e != api.ErrArg {
				t.Errorf("%x at %d: %+v, %d, %d", s, at, v, to, e)
			}
		}
		if v, to, e := val.Decode(s, len(s)); !val.Same(v, api.Val{}) || to != 0 || e != api.ErrWire {
			t.Errorf("%x at its end: %+v, %d, %d", s, v, to, e)
		}
	}
}

// P3.5: the first error, from the front.
func TestDecodeErrors(t *testing.T) {
	head := func(kind, n int) string { return wire.Num(kind) + wire.Num(n) }
	sized := func(s string) string { return head(api.Text, len(s)) + s }
	for i, x := range []struct {
		s string
		e api.Errno
	}{
		{"", api.ErrWire}, {"\x80", api.ErrWire}, {"\x80\x00", api.ErrWire},
		{wire.Num(-1), api.ErrVal}, {wire.Num(6), api.ErrVal}, {wire.Num(6) + "\x80\x00", api.ErrVal}, {wire.Num(math.MaxInt), api.ErrVal}, {wire.Num(math.MinInt), api.ErrVal},
		{wire.Num(api.Num), api.ErrWire}, {wire.Num(api.Num) + "\x80\x00", api.ErrWire}, {wire.Num(api.Num) + "\x80", api.ErrWire},
		{head(api.Num, api.MaxNum+1), api.ErrVal}, {head(api.Num, -api.MaxNum-1), api.ErrVal}, {head(api.Num, math.MinInt), api.ErrVal}, {head(api.Num, api.MaxNum), api.OK}, {head(api.Num, -api.MaxNum), api.OK},
		{head(api.Ref, 0), api.ErrVal}, {head(api.Ref, api.MaxID+1), api.ErrVal}, {head(api.Ref, -21), api.ErrVal}, {head(api.Ref, api.MaxID), api.OK}, {head(api.Ref, -20), api.OK}, {head(api.Ref, 1), api.OK}, {head(api.Ref, -1), api.OK},
		{head(api.Weak, 0), api.ErrVal}, {head(api.Weak, api.MaxID+1), api.ErrVal}, {head(api.Weak, -21), api.ErrVal}, {head(api.Weak, api.MaxID), api.OK}, {head(api.Weak, -20), api.OK}, {wire.Num(api.Weak), api.ErrWire}, {wire.Num(api.Ref) + "\x81", api.ErrWire},
		{wire.Num(api.Text), api.ErrWire}, {head(api.Text, -1) + "a", api.ErrWire}, {head(api.Text, 1), api.ErrWire}, {head(api.Text, 61) + long, api.ErrWire}, {sized(long + "y"), api.ErrVal}, {sized(long), api.OK},
		{sized(strings.Repeat("a", 10000)), api.ErrVal}, {sized(strings.Repeat("a", 10001)), api.ErrWire}, {sized("\x1f"), api.ErrVal}, {sized("a\x7f"), api.ErrVal}, {sized("\xc3"), api.ErrVal}, {head(api.Text, 1) + "é", api.ErrVal}, {sized("\x00"), api.ErrVal},
		{wire.Num(api.List), api.ErrWire}, {head(api.List, 13), api.ErrVal}, {head(api.List, -1), api.ErrVal}, {head(api.List, math.MaxInt), api.ErrVal}, {head(api.List, math.MinInt), api.ErrVal}, {head(api.List, 13) + strings.Repeat("\x00", 13), api.ErrVal}, {head(api.List, 12) + strings.Repeat("\x00", 12), api.OK}, {head(api.List, 12) + strings.Repeat("\x00", 11), api.ErrWire},
		{head(api.List, 1) + head(api.List, 0), api.ErrVal}, {head(api.List, 1) + wire.Num(api.List), api.ErrVal}, {head(api.List, 1) + wire.Num(api.List) + "\x80\x00", api.ErrVal}, {head(api.List, 2) + "\x00" + head(api.List, 13), api.ErrVal},
		{head(api.List, 2) + head(api.Ref, 0) + "\x80\x00", api.ErrVal}, {head(api.List, 2) + "\x80\x00" + head(api.Ref, 0), api.ErrWire}, {head(api.List, 2) + sized("\x7f"), api.ErrVal}, {head(api.List, 2) + sized("a"), api.ErrWire}, {head(api.List, 1) + wire.Num(6), api.ErrVal},
	} {
		v, to, e := val.Decode(x.s, 0)
		if e != x.e || e != api.OK && (to != 0 || !val.Same(v, api.Val{})) {
			t.Errorf("%d: %x: %+v, %d, %d, not %d", i, x.s, v, to, e, x.e)
		}
		checkDecode(t, "\x02\x80"+x.s, 2)
	}
}

// strands yields all texts of up to n of the bytes.
func strands(bytes string, n int, yield func(string)) {
	var grow func(string)
	grow = func(s string) {
		yield(s)
		if len(s) < n {
			for i := range len(bytes) {
				grow(s + bytes[i:i+1])
			}
		}
	}
	grow("")
}

// P3.5: all short bytes are decoded as the chapter says.
func TestDecodeAllShort(t *testing.T) {
	var all []byte
	for i := range 256 {
		all = append(all, byte(i))
	}
	strands(string(all), 2, func(s string) { checkDecode(t, s, 0) })
	strands("\x00\x01\x02\x04\x06\x08\x0a\x1a\x20\x27\x29\x7f\x80\xc3\xa9\xff", 4, func(s string) { checkDecode(t, s, 0) })
	strands("\x00\x02\x04\x06\x08\x0a\x80", 6, func(s string) { checkDecode(t, s, 0) })
}

// spoil is a text with some of its bytes turned, taken out, doubled, or put in of those of more.
func spoil(r *rand.Rand, s, more string) string {
	b := []byte(s)
	for range 1 + r.Intn(3) {
		i := r.Intn(len(b) + 1)
		c := more[r.Intn(len(more))]
		switch k := r.Intn(4); {
		case k == 0:
			b = slices.Insert(b, i, c)
		case i == len(b):
		case k == 1:
			b[i] = c
		case k == 2:
			b = slices.Delete(b, i, i+1)
		default:
			b = slices.Insert(b, i, b[i])
		}
	}
	return string(b)
}

// P3.5: bytes of right values, spoilt, are decoded as the chapter says, from each place.
func TestDecodeSpoilt(t *testing.T) {
	r := rand.New(rand.NewSource(3))
	l := rightVals()
	for range 40000 {
		s, _ := val.Encode(l[r.Intn(len(l))])
		s = spoil(r, s, "\x00\x01\x02\x04\x06\x08\x0a\x18\x1a\x27\x28\x29\x7f\x80\xc3\xff")
		checkDecode(t, s, r.Intn(min(len(s), 3)+1))
	}
}

// P3.7: unlike values have unlike bytes, and no value's bytes begin another one's.
func TestBytesUnlike(t *testing.T) {
	l := rightVals()[1:]
	for i, v := range l {
		s, _ := val.Encode(v)
		for j, w := range l {
			if u, _ := val.Encode(w); i != j && strings.HasPrefix(u, s) {
				t.Errorf("the bytes of %+v begin those of %+v", v, w)
			}
		}
	}
}

// within says whether a shares memory with b.
func within(a, b string) bool {
	first, at := uintptr(unsafe.Pointer(unsafe.StringData(b))), uintptr(unsafe.Pointer(unsafe.StringData(a)))
	return at >= first && at < first+uintptr(len(b))
}

// R3: texts that are answered are new memory, and no two lists share any.
func TestDecodeMemory(t *testing.T) {
	s, _ := val.Encode(list(text("abc"), text("abc")))
	v, _, _ := val.Decode(s, 0)
	w, _, _ := val.Decode(s, 0)
	if within(v.L[0].S, s) || within(v.L[1].S, s) {
		t.Error("a text shares memory with what it is decoded from")
	}
	clear(v.L[:cap(v.L)])
	if !val.Same(w, list(text("abc"), text("abc"))) {
		t.Error("two answers share memory")
	}
}

// FuzzDecode: P3.5 of any bytes.
func FuzzDecode(f *testing.F) {
	for _, v := range rightVals() {
		s, _ := val.Encode(v)
		f.Add(s, 0)
	}
	f.Fuzz(func(t *testing.T, s string, at int) { checkDecode(t, s, at) })
}
