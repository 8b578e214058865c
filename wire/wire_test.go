package wire_test

import (
	"hash/crc32"
	"math"
	"strings"
	"testing"
	"unsafe"

	"moraine/api"
	"moraine/wire"
)

// plainNum is a number's bytes by the chapter's own words, one group behind the other.
func plainNum(n int) string {
	m, sign := n, 0
	if n < 0 {
		m, sign = -1-n, 1
	}
	l := []int{m%64*2 + sign}
	for left := m / 64; left > 0; left /= 128 {
		l = append(l, left%128)
	}
	var b []byte
	for i, g := range l {
		if i < len(l)-1 {
			g += 128
		}
		b = append(b, byte(g))
	}
	return string(b)
}

// numbers are those about each power of two, both ways, and the least and greatest ones.
func numbers() []int {
	l := []int{math.MinInt, math.MinInt + 1, math.MaxInt, math.MaxInt - 1, 300, -300, 10000, api.MaxNum, -api.MaxNum}
	for i := range 63 {
		for d := -2; d <= 2; d++ {
			l = append(l, 1<<i+d, -(1<<i)+d)
		}
	}
	for n := -9000; n <= 9000; n++ {
		l = append(l, n)
	}
	return l
}

func refuseNum(t *testing.T, s string, at int) {
	t.Helper()
	if n, to, e := wire.ReadNum(s, at); n != 0 || to != 0 || e != api.ErrWire {
		t.Errorf("ReadNum(%x, %d): %d, %d, %d", s, at, n, to, e)
	}
}

func refuseText(t *testing.T, s string, at int) {
	t.Helper()
	if u, to, e := wire.ReadText(s, at); u != "" || to != 0 || e != api.ErrWire {
		t.Errorf("ReadText of %d bytes at %d: %d bytes, %d, %d", len(s), at, len(u), to, e)
	}
}

// P1.1: the bytes of the chapter's examples.
func TestNumExamples(t *testing.T) {
	for _, x := range []struct {
		n int
		s string
	}{{0, "\x00"}, {-1, "\x01"}, {63, "\x7e"}, {64, "\x80\x01"}, {300, "\xd8\x04"}} {
		if s := wire.Num(x.n); s != x.s {
			t.Errorf("%d: %x", x.n, s)
		}
	}
}

// P1.1, P1.4: all numbers have the bytes that the chapter tells, and are read from among others.
func TestNumRead(t *testing.T) {
	for _, n := range numbers() {
		s := wire.Num(n)
		if s != plainNum(n) {
			t.Fatalf("%d: %x", n, s)
		}
		for _, x := range []struct {
			ahead, behind string
		}{{"", ""}, {"\x80", ""}, {"", "\x00"}, {"ab\xff", "\x80\x01"}} {
			m, to, e := wire.ReadNum(x.ahead+s+x.behind, len(x.ahead))
			if m != n || to != len(x.ahead)+len(s) || e != api.OK {
				t.Fatalf("%d between %x and %x: %d, %d, %d", n, x.ahead, x.behind, m, to, e)
			}
		}
		for i := range len(s) {
			refuseNum(t, s[:i], 0)
		}
	}
}

// P1.1: from 1 to 10 bytes.
func TestNumLengths(t *testing.T) {
	seen := map[int]bool{}
	for _, n := range numbers() {
		seen[len(wire.Num(n))] = true
	}
	for i := 1; i <= 10; i++ {
		if !seen[i] {
			t.Errorf("no number has %d bytes", i)
		}
	}
	if len(seen) != 10 {
		t.Error(seen)
	}
}

// P1.1: places that are none.
func TestNumPlaces(t *testing.T) {
	for _, s := range []string{"", "\x02", "\x02\x02\x02", "\x80\x01"} {
		for _, at := range []int{math.MinInt, -len(s) - 1, -2, -1, len(s), len(s) + 1, len(s) + 2, math.MaxInt - 1, math.MaxInt} {
			refuseNum(t, s, at)
			refuseText(t, s, at)
		}
	}
}

// P1.1: a last group that is 0, numbers that are too great, and bytes without end.
func TestNumWrong(t *testing.T) {
	nine := strings.Repeat("\xff", 9)
	for _, s := range []string{
		"\x80\x00", "\x81\x00", "\xff\x80\x00", "\x80\x80\x00", "\x80\x80\x80\x80\x80\x80\x80\x80\x80\x00",
		nine + "\x00", nine + "\x02", nine + "\x03", nine + "\x41", nine + "\x7f",
		nine + "\x80\x00", nine + "\x80\x01", nine + "\x81\x00", nine + "\x81\x01", nine + "\xff\x01",
		strings.Repeat("\x80", 10) + "\x01", strings.Repeat("\x80", 18) + "\x01", strings.Repeat("\x80", 64) + "\x01",
		strings.Repeat("\x80", 10), nine, nine + nine, strings.Repeat("\x80", 100000) + "\x01",
	} {
		refuseNum(t, s, 0)
		refuseNum(t, "\x00"+s, 1)
		refuseText(t, s, 0)
	}
	if n, at, e := wire.ReadNum(nine+"\x01", 0); n != math.MinInt || at != 10 || e != api.OK {
		t.Error(n, at, e)
	}
	if n, at, e := wire.ReadNum("\xfe"+nine[1:]+"\x01", 0); n != math.MaxInt || at != 10 || e != api.OK {
		t.Error(n, at, e)
	}
}

// strands yields all texts of up to n of the bytes.
func strands(bytes string, n int, yield func(string)) {
	var grow func(string)
	grow = func(s string) {
		yield(s)
		if len(s) < n {
			for i := range len(bytes) {
				grow(s + bytes[i:i+1])
			}
		}
	}
	grow("")
}

func allBytes() string {
	var b []byte
	for i := range 256 {
		b = append(b, byte(i))
	}
	return string(b)
}

// checkRead holds what is read of s against what is written: it stood there, or nothing did.
func checkRead(t *testing.T, s string) {
	t.Helper()
	n, to, e := wire.ReadNum(s, 0)
	switch {
	case e == api.OK && (to < 1 || to > len(s) || wire.Num(n) != s[:to]):
		t.Fatalf("%x is read as %d up to %d", s, n, to)
	case e != api.OK && (n != 0 || to != 0 || e != api.ErrWire):
		t.Fatalf("%x: %d, %d, %d", s, n, to, e)
	}
	u, to, e := wire.ReadText(s, 0)
	if e != api.OK {
		if u != "" || to != 0 || e != api.ErrWire {
			t.Fatalf("%x: %q, %d, %d", s, u, to, e)
		}
		return
	}
	if w, f := wire.Text(u); to < 1 || to > len(s) || f != api.OK || w != s[:to] {
		t.Fatalf("%x is read as %q up to %d", s, u, to)
	}
}

// P1.4: what is read is written as it stood, of all short texts and of those of telling bytes.
func TestReadIsWritten(t *testing.T) {
	check := func(s string) { checkRead(t, s) }
	strands(allBytes(), 2, check)
	strands("\x00\x01\x02\x04\x7f\x80\x81\xff", 5, check)
	for _, mid := range []string{"\x80", "\xff", "\xaa"} {
		strands("\x00\x01\x02\x7f\x80\xff", 4, func(s string) { check(strings.Repeat(mid, 7) + s) })
	}
}

// FuzzRead: P1.4 of any text.
func FuzzRead(f *testing.F) {
	for _, s := range []string{"", "\x00", "\xd8\x04", "\x06abc", "\x80\x00", "\xff\xff\xff\xff\xff\xff\xff\xff\xff\x01"} {
		f.Add(s)
	}
	f.Fuzz(func(t *testing.T, s string) {
		checkRead(t, s)
		if wire.Sum(s) != int(crc32.ChecksumIEEE([]byte(s))) {
			t.Errorf("%x: %x", s, wire.Sum(s))
		}
	})
}

// P1.2, P1.4: texts of all lengths about the edges are written, and read from among others.
func TestText(t *testing.T) {
	for _, n := range []int{0, 1, 2, 62, 63, 64, 65, 8191, 8192, 9999, 10000} {
		for _, c := range []string{"a", "\x00", "\x80", "\xff"} {
			s := strings.Repeat(c, n)
			u, e := wire.Text(s)
			if e != api.OK || u != wire.Num(n)+s {
				t.Fatalf("%d bytes: %d bytes, %d", n, len(u), e)
			}
			for _, x := range []struct {
				ahead, behind string
			}{{"", ""}, {"\x80\x04", "\x00b"}} {
				v, to, e := wire.ReadText(x.ahead+u+x.behind, len(x.ahead))
				if v != s || to != len(x.ahead)+len(u) || e != api.OK {
					t.Fatalf("%d bytes: %d bytes, %d, %d", n, len(v), to, e)
				}
			}
			refuseText(t, u[:len(u)-1], 0)
		}
	}
}

// P1.2: texts that are too long are neither written nor read.
func TestTextTooLong(t *testing.T) {
	for _, n := range []int{10001, 10002, 20000, 100000} {
		s := strings.Repeat("c", n)
		if u, e := wire.Text(s); u != "" || e != api.ErrWire {
			t.Errorf("%d: %d bytes, %d", n, len(u), e)
		}
		refuseText(t, wire.Num(n)+s, 0)
	}
}

// P1.2: lengths below 0, lengths beyond the end, and lengths that are no numbers.
func TestTextWrong(t *testing.T) {
	for _, s := range []string{"", "\x01", "\x01a", "\x03ab", "\x02", "\x04a", "\x06ab", "\x80", "\x80\x00", "\x82\x00a"} {
		refuseText(t, s, 0)
		refuseText(t, "\x00"+s, 1)
	}
	for _, n := range []int{math.MinInt, math.MinInt + 1, -10000, -2, 1 << 32, 1 << 40, math.MaxInt - 1, math.MaxInt} {
		refuseText(t, wire.Num(n), 0)
		refuseText(t, "ab"+wire.Num(n)+"cd", 2)
	}
}

// R3: what is answered is new memory.
func TestTextNewMemory(t *testing.T) {
	s := strings.Repeat("d", 100)
	u, _ := wire.Text(s)
	v, _, _ := wire.ReadText(u, 0)
	first := uintptr(unsafe.Pointer(unsafe.StringData(u)))
	if at := uintptr(unsafe.Pointer(unsafe.StringData(v))); at >= first && at < first+uintptr(len(u)) {
		t.Error("what is read shares memory with what it is read from")
	}
}

// P1.3: the chapter's example, and the sums of texts as the library has them.
func TestSum(t *testing.T) {
	if n := wire.Sum("123456789"); n != 0xcbf43926 {
		t.Errorf("%x", n)
	}
	if n := wire.Sum(""); n != 0 {
		t.Errorf("%x", n)
	}
	strands(allBytes(), 2, func(s string) {
		if n := wire.Sum(s); n != int(crc32.ChecksumIEEE([]byte(s))) {
			t.Fatalf("%x: %x", s, n)
		}
	})
	all := strings.Repeat(allBytes(), 40)
	for _, n := range []int{3, 4, 59, 60, 61, 64, 255, 256, 1000, 10000, len(all)} {
		if m := wire.Sum(all[:n]); m != int(crc32.ChecksumIEEE([]byte(all[:n]))) {
			t.Errorf("%d: %x", n, m)
		}
	}
}

// P1.4: one byte that is another one makes another sum, wherever it stands.
func TestSumUnlike(t *testing.T) {
	for _, s := range []string{"a", "\x00\x00", strings.Repeat("\x00", 60), strings.Repeat("\xff", 60), allBytes()[100:164]} {
		n := wire.Sum(s)
		for i := range len(s) {
			b := []byte(s)
			for mask := 1; mask < 256; mask++ {
				b[i] = s[i] ^ byte(mask)
				if wire.Sum(string(b)) == n {
					t.Fatalf("%x, byte %d, mask %x", s, i, mask)
				}
			}
		}
	}
}
