package disk_test

import (
	"math"
	"math/rand"
	"slices"
	"strings"
	"testing"
	"unsafe"

	"moraine/api"
	"moraine/disk"
)

var noughts = strings.Repeat("\x00", api.Sector)

// full is a sector full of one byte.
func full(c string) string {
	return strings.Repeat(c, api.Sector)
}

// mixed is a sector no two of whose neighbours are alike.
func mixed(seed int) string {
	b := make([]byte, api.Sector)
	for i := range b {
		b[i] = byte(seed*31 + i*7)
	}
	return string(b)
}

func newDisk(t *testing.T, sectors int) *disk.Disk {
	t.Helper()
	d, e := disk.New(sectors)
	if d == nil || e != api.OK {
		t.Fatalf("New(%d): %v, %d", sectors, d, e)
	}
	return d
}

func told(t *testing.T, what string, got, want api.Errno) {
	t.Helper()
	if got != want {
		t.Fatalf("%s: told %d, not %d", what, got, want)
	}
}

func write(t *testing.T, d *disk.Disk, at int, s string) {
	t.Helper()
	told(t, "Write", d.Write(at, s), api.OK)
}

// holds fails unless the disk has these sectors, and so many writes are pending.
func holds(t *testing.T, what string, d *disk.Disk, pending int, sectors ...string) {
	t.Helper()
	if n := d.Size(); n != len(sectors) {
		t.Fatalf("%s: Size %d, not %d", what, n, len(sectors))
	}
	if n := d.Pending(); n != pending {
		t.Fatalf("%s: Pending %d, not %d", what, n, pending)
	}
	for at, want := range sectors {
		if s, e := d.Read(at); s != want || e != api.OK {
			t.Fatalf("%s: Read(%d): %q, %d, not %q", what, at, s, e, want)
		}
	}
}

// threeWrites is the chapter's disk of two sectors: a at 0, b at 1, c at 0 are pending.
func threeWrites(t *testing.T) *disk.Disk {
	t.Helper()
	d := newDisk(t, 2)
	write(t, d, 0, full("a"))
	write(t, d, 1, full("b"))
	write(t, d, 0, full("c"))
	return d
}

// P2.1: a new disk has so many sectors of noughts, kept, and nothing pending.
func TestNew(t *testing.T) {
	for _, n := range []int{1, 2, 3, 64, api.MaxSectors - 1, api.MaxSectors} {
		d := newDisk(t, n)
		empty := slices.Repeat([]string{noughts}, n)
		holds(t, "new", d, 0, empty...)
		write(t, d, n-1, full("x"))
		told(t, "Crash", d.Crash(nil), api.OK)
		holds(t, "behind a power loss", d, 0, empty...)
	}
	for _, n := range []int{0, -1, api.MaxSectors + 1, math.MinInt, math.MaxInt} {
		if d, e := disk.New(n); d != nil || e != api.ErrArg {
			t.Errorf("New(%d): %v, %d", n, d, e)
		}
	}
}

// P2.1: what one disk is told, another one does not hear of.
func TestDisksShareNothing(t *testing.T) {
	d, o := newDisk(t, 2), newDisk(t, 2)
	write(t, d, 0, full("a"))
	told(t, "Sync", d.Sync(), api.OK)
	told(t, "Rot", d.Rot(1, 1, 1), api.OK)
	told(t, "Cut", d.Cut(0), api.OK)
	holds(t, "the other one", o, 0, noughts, noughts)
	write(t, o, 1, full("b"))
	told(t, "Sync", o.Sync(), api.OK)
}

// P2.2: of several writes of a sector the last one is there; each sector has its own.
func TestReadNewest(t *testing.T) {
	d := newDisk(t, 3)
	write(t, d, 1, mixed(1))
	holds(t, "one", d, 1, noughts, mixed(1), noughts)
	write(t, d, 0, mixed(2))
	write(t, d, 1, mixed(3))
	holds(t, "three", d, 3, mixed(2), mixed(3), noughts)
	write(t, d, 1, mixed(1))
	holds(t, "four", d, 4, mixed(2), mixed(1), noughts)
	told(t, "Sync", d.Sync(), api.OK)
	holds(t, "synced", d, 0, mixed(2), mixed(1), noughts)
	write(t, d, 2, mixed(5))
	holds(t, "behind it", d, 1, mixed(2), mixed(1), mixed(5))
}

// P2.2, P2.7: what was synced, and not written since, is there behind each power loss.
func TestSyncKeeps(t *testing.T) {
	d := threeWrites(t)
	told(t, "Sync", d.Sync(), api.OK)
	told(t, "Crash", d.Crash(nil), api.OK)
	holds(t, "a power loss", d, 0, full("c"), full("b"))
	write(t, d, 1, full("d"))
	told(t, "Crash", d.Crash([]int{0}), api.OK)
	holds(t, "another one", d, 0, full("c"), full("d"))
	told(t, "Sync", d.Sync(), api.OK)
	told(t, "Sync", d.Sync(), api.OK)
	holds(t, "a Sync of nothing", d, 0, full("c"), full("d"))
}

// P2.2: no other sectors, nor other lengths, are read or written; nothing has changed then.
func TestReadWriteRefuse(t *testing.T) {
	d := threeWrites(t)
	for _, at := range []int{-1, 2, api.MaxSectors, math.MinInt, math.MaxInt} {
		if s, e := d.Read(at); s != "" || e != api.ErrDisk {
			t.Errorf("Read(%d): %q, %d", at, s, e)
		}
		told(t, "Write of no sector", d.Write(at, full("x")), api.ErrDisk)
		told(t, "Write of nothing right", d.Write(at, "x"), api.ErrDisk)
	}
	for _, n := range []int{0, 1, api.Sector - 1, api.Sector + 1, 2 * api.Sector, 100000} {
		told(t, "Write of another length", d.Write(0, strings.Repeat("x", n)), api.ErrDisk)
	}
	holds(t, "behind them", d, 3, full("c"), full("b"))
}

// P2.2: bytes are bytes, whether they are right UTF-8 or not.
func TestAnyBytes(t *testing.T) {
	d := newDisk(t, 4)
	var want []string
	for at := range 4 {
		b := make([]byte, api.Sector)
		for i := range b {
			b[i] = byte(at*api.Sector + i)
		}
		want = append(want, string(b))
		write(t, d, at, want[at])
	}
	holds(t, "pending", d, 4, want...)
	told(t, "Sync", d.Sync(), api.OK)
	holds(t, "kept", d, 0, want...)
}

// P2.3: the chapter's examples.
func TestCrashExamples(t *testing.T) {
	d := threeWrites(t)
	holds(t, "ahead", d, 3, full("c"), full("b"))
	told(t, "Crash", d.Crash([]int{2, 1}), api.OK)
	holds(t, "2, 1", d, 0, full("c"), full("b"))
	d = threeWrites(t)
	told(t, "Crash", d.Crash([]int{2, 0}), api.OK)
	holds(t, "2, 0", d, 0, full("a"), noughts)
}

// numberLists are all lists of up to n numbers from -1 to m.
func numberLists(n, m int) [][]int {
	all := [][]int{nil}
	last := all
	for range n {
		var next [][]int
		for _, l := range last {
			for k := -1; k <= m; k++ {
				next = append(next, append(slices.Clone(l), k))
			}
		}
		all = append(all, next...)
		last = next
	}
	return all
}

// eachOnce says by the chapter's words whether a list is right for so many pending writes.
func eachOnce(l []int, pending int) bool {
	for i, k := range l {
		if k < 0 || k >= pending || slices.Contains(l[:i], k) {
			return false
		}
	}
	return true
}

// P2.3: of all lists those that name pending writes, each once, are laid in their order; others change nothing.
func TestCrashAllLists(t *testing.T) {
	at := []int{0, 1, 0, 2, 1}
	for n := range len(at) + 1 {
		for _, keep := range numberLists(4, n) {
			d := newDisk(t, 3)
			now := []string{mixed(100), noughts, noughts}
			write(t, d, 0, mixed(100))
			told(t, "Sync", d.Sync(), api.OK)
			behind := slices.Clone(now)
			for i, a := range at[:n] {
				write(t, d, a, mixed(i))
				now[a] = mixed(i)
			}
			handed := slices.Clone(keep)
			e := d.Crash(handed)
			if !slices.Equal(handed, keep) {
				t.Fatalf("Crash(%v) wrote into it: %v", keep, handed)
			}
			if !eachOnce(keep, n) {
				told(t, "Crash of a wrong list", e, api.ErrKeep)
				holds(t, "behind it", d, n, now...)
				told(t, "Sync", d.Sync(), api.OK)
				holds(t, "synced", d, 0, now...)
				continue
			}
			told(t, "Crash of a right list", e, api.OK)
			for _, k := range keep {
				behind[at[k]] = mixed(k)
			}
			holds(t, "behind it", d, 0, behind...)
			told(t, "Crash", d.Crash(nil), api.OK)
			holds(t, "kept", d, 0, behind...)
		}
	}
}

// P2.3: wrong numbers far out, and lists longer than what is pending.
func TestCrashRefuse(t *testing.T) {
	d := threeWrites(t)
	long := make([]int, 100000)
	for i := range long {
		long[i] = i
	}
	for _, keep := range [][]int{{math.MinInt}, {math.MaxInt}, {0, 1, 2, 3}, {0, 1, 2, 0}, {1, 1}, {3}, {-1}, {2, -1}, long} {
		told(t, "Crash", d.Crash(keep), api.ErrKeep)
		holds(t, "behind it", d, 3, full("c"), full("b"))
	}
	told(t, "Crash", d.Crash([]int{0, 2, 1}), api.OK)
	holds(t, "all three", d, 0, full("c"), full("b"))
	told(t, "Crash of what is no more", d.Crash([]int{0}), api.ErrKeep)
}

// turned is a sector with one byte turned by a mask, bit by bit.
func turned(s string, place, mask int) string {
	b := []byte(s)
	for bit := range 8 {
		if mask>>bit&1 == 0 {
			continue
		}
		if b[place]>>bit&1 == 1 {
			b[place] -= 1 << bit
		} else {
			b[place] += 1 << bit
		}
	}
	return string(b)
}

// P2.4, P2.7: each byte is turned by each mask, no other one is, and twice by one mask is not at all.
func TestRot(t *testing.T) {
	d := newDisk(t, 3)
	write(t, d, 1, mixed(9))
	told(t, "Sync", d.Sync(), api.OK)
	for place := range api.Sector {
		for mask := range 256 {
			told(t, "Rot", d.Rot(1, place, mask), api.OK)
			holds(t, "rotten", d, 0, noughts, turned(mixed(9), place, mask), noughts)
			told(t, "Rot", d.Rot(1, place, mask), api.OK)
			holds(t, "rotten twice", d, 0, noughts, mixed(9), noughts)
		}
	}
}

// P2.4: what is kept rots, not what is pending: that hides it, and is laid over it.
func TestRotBelowPending(t *testing.T) {
	for _, keep := range [][]int{nil, {0}, {1}, {0, 1}, {1, 0}} {
		d := newDisk(t, 2)
		write(t, d, 0, mixed(1))
		told(t, "Sync", d.Sync(), api.OK)
		write(t, d, 0, mixed(2))
		write(t, d, 0, mixed(3))
		told(t, "Rot", d.Rot(0, 63, 255), api.OK)
		told(t, "Rot", d.Rot(1, 0, 128), api.OK)
		holds(t, "pending", d, 2, mixed(3), turned(noughts, 0, 128))
		want := turned(mixed(1), 63, 255)
		for _, k := range keep {
			want = mixed(2 + k)
		}
		told(t, "Crash", d.Crash(keep), api.OK)
		holds(t, "behind a power loss", d, 0, want, turned(noughts, 0, 128))
	}
	d := threeWrites(t)
	told(t, "Rot", d.Rot(0, 5, 3), api.OK)
	told(t, "Sync", d.Sync(), api.OK)
	holds(t, "synced over it", d, 0, full("c"), full("b"))
}

// P2.4: other sectors, places and masks are refused, the sector first, and nothing has rotted.
func TestRotRefuse(t *testing.T) {
	d := threeWrites(t)
	wrong := []int{-1, 256, math.MinInt, math.MaxInt}
	for _, at := range []int{-1, 2, math.MinInt, math.MaxInt} {
		told(t, "Rot of no sector", d.Rot(at, 0, 1), api.ErrDisk)
		told(t, "Rot of nothing right", d.Rot(at, -1, 256), api.ErrDisk)
	}
	for _, w := range wrong {
		told(t, "Rot of no place", d.Rot(0, w, 1), api.ErrArg)
		told(t, "Rot by no mask", d.Rot(1, 0, w), api.ErrArg)
	}
	told(t, "Rot past the end", d.Rot(0, api.Sector, 1), api.ErrArg)
	told(t, "Crash", d.Crash(nil), api.OK)
	holds(t, "behind them", d, 0, noughts, noughts)
}

// P2.5: the calls of a cut do what they do, those behind it nothing, till a power loss.
func TestCut(t *testing.T) {
	for n := range 7 {
		d := newDisk(t, 2)
		told(t, "Cut", d.Cut(n), api.OK)
		now, pending := []string{noughts, noughts}, 0
		for i := range 10 {
			want := api.OK
			if i >= n {
				want = api.ErrPower
			}
			if i%3 == 2 {
				told(t, "Sync", d.Sync(), want)
				if i < n {
					pending = 0
				}
			} else {
				told(t, "Write", d.Write(i%2, mixed(i)), want)
				if i < n {
					now[i%2] = mixed(i)
					pending++
				}
			}
			holds(t, "behind a call", d, pending, now...)
		}
		told(t, "Crash", d.Crash(nil), api.OK)
		for i := range 10 {
			write(t, d, i%2, mixed(i))
		}
		told(t, "Sync", d.Sync(), api.OK)
		holds(t, "power again", d, 0, mixed(8), mixed(9))
	}
}

// P2.5: a Write that tells ErrDisk is none of the n, and tells that without power, too; a Sync of nothing is one.
func TestCutCounts(t *testing.T) {
	d := newDisk(t, 1)
	told(t, "Cut", d.Cut(2), api.OK)
	for range 5 {
		told(t, "Write of no sector", d.Write(1, full("x")), api.ErrDisk)
		told(t, "Write of another length", d.Write(0, "x"), api.ErrDisk)
	}
	told(t, "Sync of nothing", d.Sync(), api.OK)
	write(t, d, 0, full("a"))
	told(t, "Write", d.Write(0, full("b")), api.ErrPower)
	told(t, "Sync", d.Sync(), api.ErrPower)
	told(t, "Write of no sector", d.Write(-1, full("x")), api.ErrDisk)
	told(t, "Write of another length", d.Write(0, full("x")+"x"), api.ErrDisk)
	holds(t, "behind them", d, 1, full("a"))
}

// P2.5: a cut that is set again is set anew, ahead of its end and behind it; a wrong one sets nothing.
func TestCutAgain(t *testing.T) {
	d := newDisk(t, 1)
	for _, n := range []int{-1, math.MinInt} {
		told(t, "Cut", d.Cut(n), api.ErrArg)
		write(t, d, 0, full("a"))
	}
	told(t, "Cut", d.Cut(5), api.OK)
	told(t, "Cut", d.Cut(1), api.OK)
	told(t, "Cut", d.Cut(-1), api.ErrArg)
	write(t, d, 0, full("b"))
	told(t, "Write", d.Write(0, full("c")), api.ErrPower)
	told(t, "Cut", d.Cut(-7), api.ErrArg)
	told(t, "Write", d.Write(0, full("c")), api.ErrPower)
	told(t, "Cut", d.Cut(2), api.OK)
	write(t, d, 0, full("d"))
	told(t, "Sync", d.Sync(), api.OK)
	told(t, "Sync", d.Sync(), api.ErrPower)
	holds(t, "behind them", d, 0, full("d"))
	told(t, "Cut", d.Cut(math.MaxInt), api.OK)
	for i := range 100 {
		write(t, d, 0, mixed(i))
	}
	holds(t, "without an end", d, 100, mixed(99))
}

// P2.5: a power loss brings power back, and takes the cut away, unless it tells an error.
func TestCutCrash(t *testing.T) {
	d := threeWrites(t)
	told(t, "Cut", d.Cut(0), api.OK)
	told(t, "Crash of a wrong list", d.Crash([]int{3}), api.ErrKeep)
	told(t, "Write", d.Write(0, full("x")), api.ErrPower)
	told(t, "Sync", d.Sync(), api.ErrPower)
	told(t, "Crash", d.Crash([]int{2}), api.OK)
	holds(t, "behind it", d, 0, full("c"), noughts)
	told(t, "Cut", d.Cut(3), api.OK)
	write(t, d, 0, full("x"))
	told(t, "Crash of a wrong list", d.Crash([]int{1}), api.ErrKeep)
	write(t, d, 1, full("y"))
	told(t, "Crash", d.Crash(nil), api.OK)
	for range 5 {
		write(t, d, 1, full("z"))
		told(t, "Sync", d.Sync(), api.OK)
	}
	holds(t, "without a cut", d, 0, full("c"), full("z"))
}

// P2.5: Read, Rot, Pending, Size are without power as with it, and none of the n.
func TestCutElse(t *testing.T) {
	d := threeWrites(t)
	told(t, "Cut", d.Cut(1), api.OK)
	for range 4 {
		holds(t, "ahead", d, 3, full("c"), full("b"))
		told(t, "Rot", d.Rot(1, 2, 3), api.OK)
	}
	write(t, d, 1, full("d"))
	for range 3 {
		told(t, "Rot", d.Rot(1, 0, 255), api.OK)
		told(t, "Rot of no sector", d.Rot(2, 0, 255), api.ErrDisk)
		told(t, "Rot of no place", d.Rot(0, 64, 255), api.ErrArg)
		holds(t, "behind", d, 4, full("c"), full("d"))
		told(t, "Sync", d.Sync(), api.ErrPower)
	}
	told(t, "Crash", d.Crash(nil), api.OK)
	holds(t, "rotten", d, 0, noughts, turned(noughts, 0, 255))
}

// P2.6: of a Disk that is nil.
func TestNil(t *testing.T) {
	var d *disk.Disk
	if s, e := d.Read(0); s != "" || e != api.ErrNil {
		t.Errorf("Read: %q, %d", s, e)
	}
	told(t, "Read of no sector", func() api.Errno { _, e := d.Read(-1); return e }(), api.ErrNil)
	told(t, "Write", d.Write(0, full("x")), api.ErrNil)
	told(t, "Write of nothing right", d.Write(-1, ""), api.ErrNil)
	told(t, "Sync", d.Sync(), api.ErrNil)
	told(t, "Crash", d.Crash(nil), api.ErrNil)
	told(t, "Crash of a wrong list", d.Crash([]int{-1}), api.ErrNil)
	told(t, "Rot", d.Rot(0, 0, 0), api.ErrNil)
	told(t, "Rot of nothing right", d.Rot(-1, -1, -1), api.ErrNil)
	told(t, "Cut", d.Cut(0), api.ErrNil)
	told(t, "Cut below 0", d.Cut(-1), api.ErrNil)
	if d.Pending() != 0 || d.Size() != 0 {
		t.Error(d.Pending(), d.Size())
	}
}

// R1: a Disk that New did not make has no sectors, and panics nowhere.
func TestZeroDisk(t *testing.T) {
	var d disk.Disk
	holds(t, "zero", &d, 0)
	if s, e := d.Read(0); s != "" || e != api.ErrDisk {
		t.Errorf("Read: %q, %d", s, e)
	}
	told(t, "Write", d.Write(0, full("x")), api.ErrDisk)
	told(t, "Rot", d.Rot(0, 0, 0), api.ErrDisk)
	told(t, "Crash", d.Crash([]int{0}), api.ErrKeep)
	told(t, "Sync", d.Sync(), api.OK)
}

// R3: what is handed in is not kept: a text whose bytes are another's changes with them.
func TestNewMemory(t *testing.T) {
	b := []byte(mixed(1))
	d := newDisk(t, 1)
	write(t, d, 0, unsafe.String(&b[0], len(b)))
	clear(b)
	holds(t, "pending", d, 1, mixed(1))
	told(t, "Sync", d.Sync(), api.OK)
	s, _ := d.Read(0)
	told(t, "Rot", d.Rot(0, 0, 255), api.OK)
	if s != mixed(1) {
		t.Errorf("an answer has changed: %q", s)
	}
}

// plainDisk is told all that a disk is told, and works each answer out of that alone, from its beginning on.
type plainDisk struct {
	calls []call
}

// call is one that did something: a write (w), a Sync (s), a power loss (c), a rotting (r).
type call struct {
	kind  byte
	at    int
	s     string
	keep  []int
	place int
	mask  int
}

// oneLess is what a cut still lets through behind a call; -1 is none, and stays that.
func oneLess(cut int) int {
	if cut < 0 {
		return cut
	}
	return cut - 1
}

// sector is what is kept of a sector, what is there of it, and how many writes are pending.
func (p *plainDisk) sector(at int) (string, string, int) {
	kept, pending := noughts, []call(nil)
	for _, c := range p.calls {
		switch c.kind {
		case 'w':
			pending = append(pending, c)
			continue
		case 'r':
			if c.at == at {
				kept = turned(kept, c.place, c.mask)
			}
			continue
		case 's':
			c.keep = nil
			for i := range pending {
				c.keep = append(c.keep, i)
			}
		}
		for _, k := range c.keep {
			if pending[k].at == at {
				kept = pending[k].s
			}
		}
		pending = nil
	}
	there := kept
	for _, w := range pending {
		if w.at == at {
			there = w.s
		}
	}
	return kept, there, len(pending)
}

// P2.7: runs of all calls against what the chapter's words say of them.
func TestRuns(t *testing.T) {
	for seed := range int64(150) {
		r := rand.New(rand.NewSource(seed))
		size := 1 + r.Intn(4)
		d, p := newDisk(t, size), &plainDisk{}
		cut := -1
		for range 80 {
			_, _, pending := p.sector(0)
			switch k := r.Intn(20); {
			case k < 10:
				at, s := r.Intn(size+1), mixed(r.Intn(256))
				want := api.OK
				if at == size {
					want = api.ErrDisk
				} else if cut == 0 {
					want = api.ErrPower
				} else {
					cut = oneLess(cut)
					p.calls = append(p.calls, call{kind: 'w', at: at, s: s})
				}
				told(t, "Write", d.Write(at, s), want)
			case k < 12:
				want := api.OK
				if cut == 0 {
					want = api.ErrPower
				} else {
					cut = oneLess(cut)
					p.calls = append(p.calls, call{kind: 's'})
				}
				told(t, "Sync", d.Sync(), want)
			case k < 15:
				keep := r.Perm(pending)[:r.Intn(pending+1)]
				if r.Intn(3) == 0 {
					keep = append(keep, r.Intn(pending+2)-1)
				}
				want := api.ErrKeep
				if eachOnce(keep, pending) {
					want, cut = api.OK, -1
					p.calls = append(p.calls, call{kind: 'c', keep: keep})
				}
				told(t, "Crash", d.Crash(keep), want)
			case k < 18:
				at, place, mask := r.Intn(size), r.Intn(api.Sector), r.Intn(256)
				told(t, "Rot", d.Rot(at, place, mask), api.OK)
				p.calls = append(p.calls, call{kind: 'r', at: at, place: place, mask: mask})
			default:
				cut = r.Intn(6)
				told(t, "Cut", d.Cut(cut), api.OK)
			}
			var there []string
			for at := range size {
				_, s, _ := p.sector(at)
				there = append(there, s)
			}
			_, _, pending = p.sector(0)
			holds(t, "a run", d, pending, there...)
		}
	}
}

// P2.7: behind a power loss each sector is what it was kept as, or all of one of its writes.
func TestNoSectorIsMixed(t *testing.T) {
	for seed := range int64(300) {
		r := rand.New(rand.NewSource(seed))
		d := newDisk(t, 3)
		mayBe := make([][]string, 3)
		for at := range mayBe {
			mayBe[at] = []string{noughts}
		}
		for range 3 {
			n := r.Intn(8)
			for i := range n {
				at, s := r.Intn(3), mixed(r.Intn(256)+i)
				write(t, d, at, s)
				mayBe[at] = append(mayBe[at], s)
			}
			told(t, "Crash", d.Crash(r.Perm(n)[:r.Intn(n+1)]), api.OK)
			for at := range mayBe {
				s, _ := d.Read(at)
				if !slices.Contains(mayBe[at], s) {
					t.Fatalf("seed %d: sector %d is %q", seed, at, s)
				}
				mayBe[at] = []string{s}
			}
		}
	}
}
