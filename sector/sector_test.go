package sector_test

import (
	"bytes"
	"math"
	"slices"
	"testing"

	"staddle/api"
	"staddle/sector"
)

// made: a device.
func made(t *testing.T, n int) *sector.Device {
	t.Helper()
	d, e := sector.New(n)
	if e != api.OK || d == nil {
		t.Fatalf("New(%d) = %v, %d", n, d, e)
	}
	return d
}

// full: a sector of one byte.
func full(c byte) []byte {
	return bytes.Repeat([]byte{c}, api.Sector)
}

// part: n bytes of one, and behind them another.
func part(n int, c, behind byte) []byte {
	return append(full(c)[:n:n], full(behind)[n:]...)
}

// is fails where a call answers another error.
func is(t *testing.T, what string, e, want api.Errno) {
	t.Helper()
	if e != want {
		t.Errorf("%s = %d, and not %d", what, e, want)
	}
}

// writes fails where a sector can't be written.
func writes(t *testing.T, d *sector.Device, i int, c byte) {
	t.Helper()
	is(t, "Write", d.Write(i, full(c)), api.OK)
}

// reads fails where a sector hasn't these bytes.
func reads(t *testing.T, d *sector.Device, i int, want []byte) {
	t.Helper()
	if p, e := d.Read(i); e != api.OK || !bytes.Equal(p, want) {
		t.Errorf("Read(%d) = %x, %d, and not %x", i, p, e, want)
	}
}

// refuses fails where a sector can be read, or there is another error.
func refuses(t *testing.T, d *sector.Device, i int, want api.Errno) {
	t.Helper()
	if p, e := d.Read(i); e != want || len(p) != 0 {
		t.Errorf("Read(%d) = %x, %d, and not %d", i, p, e, want)
	}
}

// tells fails where a device tells other numbers.
func tells(t *testing.T, d *sector.Device, ops, way int, on bool) {
	t.Helper()
	if d.Ops() != ops || d.Way() != way || d.On() != on {
		t.Errorf("Ops, Way, On = %d, %d, %t, and not %d, %d, %t", d.Ops(), d.Way(), d.On(), ops, way, on)
	}
}

// arms fails where a device can't be armed.
func arms(t *testing.T, d *sector.Device, n int) {
	t.Helper()
	is(t, "Arm", d.Arm(n), api.OK)
}

// restarts fails where a device can't be, or doesn't tell that all is over then.
func restarts(t *testing.T, d *sector.Device, keep []bool, torn, cut int) {
	t.Helper()
	ops := d.Ops()
	is(t, "Restart", d.Restart(keep, torn, cut), api.OK)
	tells(t, d, ops, 0, true)
}

// outside: numbers of no sector of a device of n.
func outside(n int) []int {
	return []int{-1, n, n + 1, -n, api.MaxSectors, math.MaxInt, math.MinInt, math.MinInt + 1, 1 << 31, 1 << 32, 1 << 56, -1 << 56}
}

func TestP14_1_New(t *testing.T) {
	for _, n := range []int{1, 2, 3, 100, api.MaxSectors - 1, api.MaxSectors} {
		d := made(t, n)
		if d.Len() != n {
			t.Errorf("Len = %d, and not %d", d.Len(), n)
		}
		for i := range n {
			reads(t, d, i, full(0))
		}
		tells(t, d, 0, 0, true)
	}
}

func TestP14_1_NewWrong(t *testing.T) {
	for _, n := range []int{0, -1, -100, api.MaxSectors + 1, 2 * api.MaxSectors, math.MaxInt, math.MinInt, 1<<32 + 1} {
		if d, e := sector.New(n); d != nil || e != api.ErrArg {
			t.Errorf("New(%d) = %v, %d", n, d, e)
		}
	}
}

func TestP14_1_Write(t *testing.T) {
	d := made(t, 4)
	writes(t, d, 0, 'a')
	writes(t, d, 3, 'b')
	for i, c := range []byte{'a', 0, 0, 'b'} {
		reads(t, d, i, full(c))
	}
	// What was written last, durable or not.
	writes(t, d, 0, 'c')
	reads(t, d, 0, full('c'))
	is(t, "Sync", d.Sync(), api.OK)
	reads(t, d, 0, full('c'))
	writes(t, d, 0, 'd')
	reads(t, d, 0, full('d'))
	writes(t, d, 0, 0)
	reads(t, d, 0, full(0))
	reads(t, d, 3, full('b'))
	// Each byte stands in its place.
	p := make([]byte, api.Sector)
	for i := range p {
		p[i] = byte(i)
	}
	is(t, "Write", d.Write(2, p), api.OK)
	reads(t, d, 2, p)
	reads(t, d, 1, full(0))
	reads(t, d, 3, full('b'))
}

func TestP14_1_AllSectors(t *testing.T) {
	d := made(t, api.MaxSectors)
	// Of each sector the bytes are its own.
	name := func(i int) []byte {
		return append(full('s')[:api.Sector-2:api.Sector-2], byte(i>>8), byte(i))
	}
	for i := range d.Len() {
		is(t, "Write", d.Write(i, name(i)), api.OK)
	}
	tells(t, d, api.MaxSectors, api.MaxSectors, true)
	is(t, "Sync", d.Sync(), api.OK)
	restarts(t, d, nil, 0, 0)
	for i := range d.Len() {
		reads(t, d, i, name(i))
	}
}

func TestP14_1_WriteWrong(t *testing.T) {
	d := made(t, 3)
	writes(t, d, 1, 'a')
	for _, p := range [][]byte{nil, {}, full('x')[:1], full('x')[:api.Sector-1], append(full('x'), 'x'), bytes.Repeat(full('x'), 2), bytes.Repeat([]byte{'x'}, 1<<16+api.Sector)} {
		is(t, "Write of a wrong length", d.Write(1, p), api.ErrForm)
		for _, i := range outside(3) {
			is(t, "Write outside, and of a wrong length", d.Write(i, p), api.ErrArg)
		}
	}
	for _, i := range outside(3) {
		is(t, "Write outside", d.Write(i, full('x')), api.ErrArg)
	}
	// None of it has left anything.
	tells(t, d, 1, 1, true)
	for i, c := range []byte{0, 'a', 0} {
		reads(t, d, i, full(c))
	}
}

func TestP14_1_ReadWrong(t *testing.T) {
	for _, n := range []int{1, 3, api.MaxSectors} {
		d := made(t, n)
		for _, i := range outside(n) {
			refuses(t, d, i, api.ErrArg)
		}
		tells(t, d, 0, 0, true)
	}
}

func TestP14_1_Sync(t *testing.T) {
	d := made(t, 3)
	is(t, "Sync of nothing", d.Sync(), api.OK)
	tells(t, d, 1, 0, true)
	writes(t, d, 0, 'a')
	writes(t, d, 1, 'b')
	writes(t, d, 0, 'c')
	tells(t, d, 4, 3, true)
	is(t, "Sync", d.Sync(), api.OK)
	tells(t, d, 5, 0, true)
	writes(t, d, 1, 'd')
	writes(t, d, 2, 'e')
	tells(t, d, 7, 2, true)
	// What was on its way ahead of the Sync is durable, in its order; what came behind it is not.
	restarts(t, d, nil, -1, 0)
	for i, c := range []byte{'c', 'b', 0} {
		reads(t, d, i, full(c))
	}
}

// does one operation: w is a Write of the sector 1, s a Sync.
func does(d *sector.Device, op rune) api.Errno {
	if op == 's' {
		return d.Sync()
	}
	return d.Write(1, full(byte(op)))
}

func TestP14_2_Arm(t *testing.T) {
	const plan = "wswwsswwwsws"
	for n := 1; n <= len(plan); n++ {
		d := made(t, 2)
		writes(t, d, 1, 'a')
		arms(t, d, n)
		way := 1
		for k, op := range plan[:n] {
			// A Read, and what is refused, is no operation.
			reads(t, d, 0, full(0))
			refuses(t, d, 2, api.ErrArg)
			is(t, "Write outside", d.Write(2, full('x')), api.ErrArg)
			is(t, "Write of a wrong length", d.Write(1, nil), api.ErrForm)
			tells(t, d, 1+k, way, true)
			want := api.OK
			if k == n-1 {
				want = api.ErrCrash
			}
			is(t, "operation "+string(op), does(d, op), want)
			if op == 'w' {
				way++
			} else if want == api.OK {
				way = 0
			}
		}
		tells(t, d, 1+n, way, false)
		for _, op := range plan {
			is(t, "operation behind the fall", does(d, op), api.ErrCrash)
		}
		tells(t, d, 1+n, way, false)
	}
}

// TestP14_2_ArmInWrite: the write in which the power goes off is on its way like any other.
func TestP14_2_ArmInWrite(t *testing.T) {
	for _, c := range []struct {
		keep      []bool
		torn, cut int
		want      []byte
	}{
		{nil, -1, 0, full(0)},
		{[]bool{true}, -1, 0, full('a')},
		{[]bool{true, false}, -1, 0, full('a')},
		{[]bool{false, true}, -1, 0, full('b')},
		{[]bool{true, true}, -1, 0, full('b')},
		{[]bool{true, false}, 1, 9, part(9, 'b', 'a')},
		{nil, 1, 255, part(255, 'b', 0)},
		{[]bool{false, true}, 0, 9, full('b')},
	} {
		d := made(t, 1)
		writes(t, d, 0, 'a')
		arms(t, d, 1)
		is(t, "Write", d.Write(0, full('b')), api.ErrCrash)
		tells(t, d, 2, 2, false)
		restarts(t, d, c.keep, c.torn, c.cut)
		reads(t, d, 0, c.want)
	}
}

// TestP14_2_ArmInSync: the Sync in which the power goes off does nothing.
func TestP14_2_ArmInSync(t *testing.T) {
	for _, c := range []struct {
		keep []bool
		a, b byte
	}{{nil, 0, 0}, {[]bool{true}, 'a', 0}, {[]bool{false, true}, 0, 'b'}, {[]bool{true, true}, 'a', 'b'}} {
		d := made(t, 2)
		writes(t, d, 0, 'a')
		writes(t, d, 1, 'b')
		arms(t, d, 1)
		is(t, "Sync", d.Sync(), api.ErrCrash)
		tells(t, d, 3, 2, false)
		restarts(t, d, c.keep, -1, 0)
		reads(t, d, 0, full(c.a))
		reads(t, d, 1, full(c.b))
	}
}

func TestP14_2_ArmAnew(t *testing.T) {
	d := made(t, 1)
	// The last word holds, and counts from there on; a refused one is none.
	arms(t, d, 1)
	arms(t, d, 3)
	is(t, "Arm below 0", d.Arm(-1), api.ErrArg)
	is(t, "Arm below 0", d.Arm(math.MinInt), api.ErrArg)
	writes(t, d, 0, 'a')
	writes(t, d, 0, 'b')
	arms(t, d, 2)
	writes(t, d, 0, 'c')
	is(t, "Sync", d.Sync(), api.ErrCrash)
	tells(t, d, 4, 3, false)
	restarts(t, d, nil, 0, 0)
	// Arm(0) takes it back.
	arms(t, d, 2)
	writes(t, d, 0, 'd')
	arms(t, d, 0)
	for range 9 {
		writes(t, d, 0, 'e')
		is(t, "Sync", d.Sync(), api.OK)
	}
	tells(t, d, 23, 0, true)
	// Nobody comes to that one.
	for _, n := range []int{math.MaxInt, math.MaxInt - 1, math.MaxInt32, 1 << 32, 1 << 62} {
		arms(t, d, n)
		writes(t, d, 0, 'f')
		is(t, "Sync", d.Sync(), api.OK)
	}
	tells(t, d, 33, 0, true)
	reads(t, d, 0, full('f'))
}

func TestP14_2_Off(t *testing.T) {
	d := made(t, 3)
	writes(t, d, 0, 'a')
	is(t, "Sync", d.Sync(), api.OK)
	writes(t, d, 1, 'b')
	arms(t, d, 1)
	is(t, "Write", d.Write(2, full('c')), api.ErrCrash)
	for range 3 {
		for i := range d.Len() {
			refuses(t, d, i, api.ErrCrash)
			is(t, "Write", d.Write(i, full('x')), api.ErrCrash)
			is(t, "Write of a wrong length", d.Write(i, full('x')[1:]), api.ErrForm)
			is(t, "Write of nothing", d.Write(i, nil), api.ErrForm)
		}
		for _, i := range outside(3) {
			refuses(t, d, i, api.ErrArg)
			is(t, "Write outside", d.Write(i, full('x')), api.ErrArg)
			is(t, "Write outside, and of a wrong length", d.Write(i, nil), api.ErrArg)
		}
		is(t, "Sync", d.Sync(), api.ErrCrash)
		// Arming is no way to switch it on.
		is(t, "Arm below 0", d.Arm(-1), api.ErrArg)
		arms(t, d, 0)
		is(t, "Sync", d.Sync(), api.ErrCrash)
		arms(t, d, 1)
		tells(t, d, 4, 2, false)
		if d.Len() != 3 {
			t.Errorf("Len = %d", d.Len())
		}
	}
	// Of all that was refused nothing is there.
	restarts(t, d, []bool{true, true, true, true, true}, 2, 100)
	for i, c := range []byte("abc") {
		reads(t, d, i, full(c))
	}
	// What was armed while it was off is armed no more.
	writes(t, d, 0, 'd')
	is(t, "Sync", d.Sync(), api.OK)
	tells(t, d, 6, 0, true)
}

func TestP14_2_Restart(t *testing.T) {
	// Whether the power was on or off: of each set of the writes just those are done.
	for _, isOff := range []bool{false, true} {
		for set := range 16 {
			d := made(t, 4)
			keep := make([]bool, 4)
			for i := range keep {
				writes(t, d, i, 'a')
				keep[i] = set>>i&1 == 1
			}
			is(t, "Sync", d.Sync(), api.OK)
			for i := range keep {
				writes(t, d, 3-i, 'b')
			}
			if isOff {
				arms(t, d, 1)
				is(t, "Sync", d.Sync(), api.ErrCrash)
			}
			restarts(t, d, keep, -1, 0)
			for range 2 {
				for i := range keep {
					if keep[i] {
						reads(t, d, 3-i, full('b'))
					} else {
						reads(t, d, 3-i, full('a'))
					}
				}
				// It is there to stay.
				restarts(t, d, nil, 0, 0)
			}
		}
	}
}

func TestP14_2_RestartKeepOfAnyLength(t *testing.T) {
	long := slices.Repeat([]bool{true}, 1000)
	for n := range 9 {
		d := made(t, 5)
		for i := range d.Len() {
			writes(t, d, i, 'a')
		}
		keep := long[:n:n]
		if n > 5 {
			keep = long
		}
		restarts(t, d, keep, 5, 3)
		for i := range d.Len() {
			if i < n {
				reads(t, d, i, full('a'))
			} else {
				reads(t, d, i, full(0))
			}
		}
	}
	// Of no writes any may be kept, or torn.
	d := made(t, 1)
	restarts(t, d, long, 0, 7)
	reads(t, d, 0, full(0))
}

func TestP14_2_RestartInOrder(t *testing.T) {
	// Three writes of one sector: each is laid over those ahead of it.
	for _, c := range []struct {
		keep      []bool
		torn, cut int
		want      []byte
	}{
		{[]bool{true, true, true}, -1, 0, full('c')},
		{[]bool{true, true}, -1, 0, full('b')},
		{[]bool{true, false, true}, -1, 0, full('c')},
		{[]bool{true, true, true}, 2, 5, part(5, 'c', 'b')},
		{[]bool{true, false, false}, 2, 5, part(5, 'c', 'a')},
		{[]bool{false, true, false}, 2, 5, part(5, 'c', 'b')},
		{[]bool{false, false, false}, 2, 5, part(5, 'c', 0)},
		{[]bool{true, true, true}, 1, 5, full('c')},
		{[]bool{true, true, false}, 1, 5, part(5, 'b', 'a')},
		{[]bool{true}, 0, 5, part(5, 'a', 0)},
		{[]bool{true, true}, 0, 5, full('b')},
		{nil, 1, 5, part(5, 'b', 0)},
	} {
		d := made(t, 1)
		for _, x := range []byte("abc") {
			writes(t, d, 0, x)
		}
		tells(t, d, 3, 3, true)
		restarts(t, d, c.keep, c.torn, c.cut)
		reads(t, d, 0, c.want)
		restarts(t, d, nil, 0, 0)
		reads(t, d, 0, c.want)
	}
}

func TestP14_2_RestartTorn(t *testing.T) {
	// All cuts; it counts for nothing whether the torn one is kept.
	for cut := -2; cut <= api.Sector+2; cut++ {
		for set := range 4 {
			d := made(t, 3)
			for i := range d.Len() {
				writes(t, d, i, 'a')
			}
			is(t, "Sync", d.Sync(), api.OK)
			writes(t, d, 0, 'b')
			writes(t, d, 2, 'c')
			writes(t, d, 1, 'd')
			restarts(t, d, []bool{set&1 == 1, set&2 == 2, true}, 1, cut)
			reads(t, d, 0, full("ab"[set&1]))
			reads(t, d, 1, full('d'))
			reads(t, d, 2, part(min(max(cut, 0), api.Sector), 'c', 'a'))
		}
	}
	for cut, n := range map[int]int{math.MinInt: 0, math.MinInt + 1: 0, -1 << 32: 0, -256: 0, 512: 256, 1 << 32: 256, 1<<32 + 1: 256, math.MaxInt - 1: 256, math.MaxInt: 256} {
		d := made(t, 1)
		writes(t, d, 0, 'a')
		restarts(t, d, nil, 0, cut)
		reads(t, d, 0, part(n, 'a', 0))
	}
}

func TestP14_2_RestartTornNone(t *testing.T) {
	// There is no write of that number: none is torn.
	for _, torn := range []int{-1, -2, 2, 3, math.MinInt, math.MaxInt, 1 << 32, -1 << 32, 1<<32 + 1} {
		d := made(t, 2)
		writes(t, d, 0, 'a')
		writes(t, d, 1, 'b')
		restarts(t, d, []bool{false, true, true}, torn, 7)
		reads(t, d, 0, full(0))
		reads(t, d, 1, full('b'))
	}
}

// TestP14_2_RestartCountsAnew: what is durable, by Sync or by Restart, is on its way no more, and the next write has the number 0.
func TestP14_2_RestartCountsAnew(t *testing.T) {
	d := made(t, 3)
	writes(t, d, 0, 'a')
	is(t, "Sync", d.Sync(), api.OK)
	writes(t, d, 0, 'b')
	writes(t, d, 1, 'c')
	restarts(t, d, []bool{false, true}, -1, 0)
	writes(t, d, 0, 'd')
	writes(t, d, 2, 'e')
	restarts(t, d, []bool{true, false}, 1, 1)
	reads(t, d, 0, full('d'))
	reads(t, d, 1, full('c'))
	reads(t, d, 2, part(1, 'e', 0))
}

func TestP14_2_RestartDisarms(t *testing.T) {
	for n := 1; n < 4; n++ {
		d := made(t, 1)
		arms(t, d, n)
		restarts(t, d, nil, 0, 0)
		for range 5 {
			writes(t, d, 0, 'a')
			is(t, "Sync", d.Sync(), api.OK)
		}
		// Armed anew it falls anew.
		arms(t, d, n)
		for range n - 1 {
			writes(t, d, 0, 'b')
		}
		is(t, "Sync", d.Sync(), api.ErrCrash)
		tells(t, d, 10+n, n-1, false)
		restarts(t, d, nil, 0, 0)
		reads(t, d, 0, full('a'))
	}
}

// TestP14_2_Example is the document's.
func TestP14_2_Example(t *testing.T) {
	d := made(t, 1)
	writes(t, d, 0, 'a')
	restarts(t, d, nil, 0, 1)
	reads(t, d, 0, part(1, 'a', 0))
}

func TestP14_3_OpsWayOn(t *testing.T) {
	d := made(t, 2)
	tells(t, d, 0, 0, true)
	for k := range 5 {
		// Two writes of one sector are two, of the same bytes, too.
		writes(t, d, 0, 'a')
		tells(t, d, 3*k+1, 1, true)
		writes(t, d, 0, 'a')
		tells(t, d, 3*k+2, 2, true)
		reads(t, d, 0, full('a'))
		is(t, "Sync", d.Sync(), api.OK)
		tells(t, d, 3*k+3, 0, true)
	}
	// The one in which the power goes off was begun; what it refuses then was not.
	arms(t, d, 1)
	tells(t, d, 15, 0, true)
	is(t, "Sync", d.Sync(), api.ErrCrash)
	tells(t, d, 16, 0, false)
	is(t, "Sync", d.Sync(), api.ErrCrash)
	is(t, "Write", d.Write(0, full('b')), api.ErrCrash)
	tells(t, d, 16, 0, false)
	// They are counted from New on, whatever the power does.
	restarts(t, d, nil, 0, 0)
	tells(t, d, 16, 0, true)
	writes(t, d, 1, 'c')
	tells(t, d, 17, 1, true)
}

func TestP14_3_Nil(t *testing.T) {
	var d *sector.Device
	for _, i := range append(outside(1), 0, 1) {
		is(t, "Write", d.Write(i, full('a')), api.ErrNone)
		is(t, "Write of a wrong length", d.Write(i, nil), api.ErrNone)
		refuses(t, d, i, api.ErrNone)
		is(t, "Arm", d.Arm(i), api.ErrNone)
		is(t, "Restart", d.Restart([]bool{true}, i, i), api.ErrNone)
	}
	is(t, "Sync", d.Sync(), api.ErrNone)
	is(t, "Restart", d.Restart(nil, 0, 0), api.ErrNone)
	tells(t, d, 0, 0, false)
	if d.Len() != 0 {
		t.Errorf("Len = %d", d.Len())
	}
}

func TestP1_ManyWritesEnd(t *testing.T) {
	const n = 200000
	d := made(t, api.MaxSectors)
	for k := range n {
		writes(t, d, k%3, byte(k))
		reads(t, d, k%3, full(byte(k)))
	}
	tells(t, d, n, n, true)
	keep := make([]bool, n)
	keep[n-4] = true
	restarts(t, d, keep, n-3, 2)
	last := n - 4
	reads(t, d, last%3, full(byte(last)))
	reads(t, d, (last+1)%3, part(2, byte(last+1&255), 0))
	reads(t, d, (last+2)%3, full(0))
	// Many times few writes: what was on its way once costs nothing any more.
	for k := range n {
		writes(t, d, k%2, byte(k))
		is(t, "Sync", d.Sync(), api.OK)
	}
	for k := range n {
		writes(t, d, 2, byte(k))
		restarts(t, d, nil, 0, 3)
	}
	reads(t, d, 0, full(byte((n-2)&255)))
	reads(t, d, 2, part(3, byte((n-1)&255), 0))
}

// TestP1_ZeroDeviceEnds: nothing is promised of it but that no call panics.
func TestP1_ZeroDeviceEnds(t *testing.T) {
	var d sector.Device
	d.Write(0, full('a'))
	d.Read(0)
	d.Sync()
	d.Arm(1)
	d.Restart([]bool{true}, 0, 1)
	d.Sync()
	d.Len()
}

func TestP2_WhatIsHandedInStays(t *testing.T) {
	d := made(t, 2)
	p := append(make([]byte, 0, 2*api.Sector), full('a')...)
	keep := append(make([]bool, 0, 4), true, false, false)
	copy(p[:cap(p)][api.Sector:], full('s'))
	keep[:4][3] = true
	is(t, "Write", d.Write(0, p), api.OK)
	is(t, "Write", d.Write(1, p), api.OK)
	if !bytes.Equal(p[:cap(p)], append(full('a'), full('s')...)) {
		t.Error("Write has changed what was handed in, or its spare room")
	}
	// What was handed in may be written over: it isn't kept, neither for Read, nor for Sync and Restart.
	clear(p)
	reads(t, d, 0, full('a'))
	reads(t, d, 1, full('a'))
	is(t, "Sync", d.Sync(), api.OK)
	reads(t, d, 0, full('a'))
	copy(p, full('b'))
	is(t, "Write", d.Write(0, p), api.OK)
	is(t, "Write", d.Write(1, p), api.OK)
	clear(p)
	restarts(t, d, keep, 1, 2)
	if !slices.Equal(keep[:4], []bool{true, false, false, true}) {
		t.Error("Restart has changed what was handed in, or its spare room")
	}
	reads(t, d, 0, full('b'))
	reads(t, d, 1, part(2, 'b', 'a'))
}

func TestP2_AnswersAreNewMemory(t *testing.T) {
	d := made(t, 2)
	spoil := func() {
		t.Helper()
		var l [][]byte
		for i := range 4 {
			p, e := d.Read(i / 2)
			is(t, "Read", e, api.OK)
			l = append(l, p)
		}
		for k, p := range l {
			p = p[:cap(p)]
			for i := range p {
				p[i] = byte('0' + k)
			}
		}
		for k, p := range l {
			if !bytes.Equal(p, full(byte('0'+k))) {
				t.Error("two answers share memory")
			}
		}
	}
	spoil()
	reads(t, d, 0, full(0))
	writes(t, d, 0, 'a')
	spoil()
	reads(t, d, 0, full('a'))
	is(t, "Sync", d.Sync(), api.OK)
	spoil()
	reads(t, d, 0, full('a'))
	writes(t, d, 0, 'b')
	writes(t, d, 1, 'c')
	spoil()
	restarts(t, d, []bool{true}, 1, 3)
	reads(t, d, 0, full('b'))
	reads(t, d, 1, part(3, 'c', 0))
	// An earlier answer stays as it was.
	p, _ := d.Read(0)
	q := slices.Clone(p)
	writes(t, d, 0, 'd')
	is(t, "Sync", d.Sync(), api.OK)
	writes(t, d, 0, 'e')
	restarts(t, d, nil, 0, 9)
	if !bytes.Equal(p, q) {
		t.Error("an earlier answer has changed")
	}
}

// TestP2_BytesAgain: a device takes the answer of another one, and of itself.
func TestP2_BytesAgain(t *testing.T) {
	d, other := made(t, 2), made(t, 2)
	writes(t, d, 0, 'a')
	p, _ := d.Read(0)
	is(t, "Write", d.Write(1, p), api.OK)
	is(t, "Write", other.Write(1, p), api.OK)
	writes(t, d, 1, 'b')
	reads(t, d, 0, full('a'))
	reads(t, other, 1, full('a'))
	reads(t, other, 0, full(0))
	tells(t, d, 3, 3, true)
	tells(t, other, 1, 1, true)
	arms(t, d, 1)
	is(t, "Sync", d.Sync(), api.ErrCrash)
	is(t, "Sync", other.Sync(), api.OK)
	tells(t, other, 2, 0, true)
}
