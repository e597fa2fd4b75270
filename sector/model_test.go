package sector_test

import (
	"math"
	"strconv"
	"strings"
	"testing"

	"staddle/api"
	"staddle/samples"
	"staddle/sector"
)

// told is one write that the model was told.
type told struct {
	at   int
	text string
}

// model is what the document says of a device: what is durable, and the writes behind it; Read looks through these from the last.
type model struct {
	disk []string
	way  []told
	ops  int
	left int // operations to the fall; 0: none
	off  bool
}

// operation: one begins; false: the power goes off in it.
func (m *model) operation() bool {
	m.ops++
	if m.left == 0 {
		return true
	}
	m.left--
	m.off = m.left == 0
	return !m.off
}

// write, by the document's words.
func (m *model) write(i int, p []byte) api.Errno {
	switch {
	case i < 0 || i >= len(m.disk):
		return api.ErrArg
	case len(p) != api.Sector:
		return api.ErrForm
	case m.off:
		return api.ErrCrash
	}
	m.way = append(m.way, told{i, string(p)})
	if !m.operation() {
		return api.ErrCrash
	}
	return api.OK
}

// read, by the document's words.
func (m *model) read(i int) (string, api.Errno) {
	switch {
	case i < 0 || i >= len(m.disk):
		return "", api.ErrArg
	case m.off:
		return "", api.ErrCrash
	}
	for k := len(m.way) - 1; k >= 0; k-- {
		if m.way[k].at == i {
			return m.way[k].text, api.OK
		}
	}
	return m.disk[i], api.OK
}

// sync, by the document's words.
func (m *model) sync() api.Errno {
	if m.off || !m.operation() {
		return api.ErrCrash
	}
	m.fall(func(int) int { return api.Sector })
	return api.OK
}

// fall: of each write on its way as many bytes are done as a function says of its number; none is on its way then.
func (m *model) fall(done func(k int) int) {
	for k, w := range m.way {
		n := done(k)
		m.disk[w.at] = w.text[:n] + m.disk[w.at][n:]
	}
	m.way = nil
}

// restart, by the document's words.
func (m *model) restart(keep []bool, torn, cut int) {
	m.fall(func(k int) int {
		switch {
		case k == torn && cut < 0:
			return 0
		case k == torn && cut < api.Sector:
			return cut
		case k == torn || k < len(keep) && keep[k]:
			return api.Sector
		}
		return 0
	})
	m.left, m.off = 0, false
}

// anyKeep: which writes are kept, not always of as many as there are.
func anyKeep(d *samples.Dice, way int) []bool {
	keep := make([]bool, d.Roll(way+3))
	for i := range keep {
		keep[i] = d.Roll(2) == 0
	}
	return keep
}

// anySector: a sector's bytes, seldom too few or too many.
func anySector(d *samples.Dice) []byte {
	n := api.Sector
	if d.Roll(9) == 0 {
		n = d.Roll(2 * api.Sector)
	}
	return d.Bytes(n)
}

// pair is a device and its model.
type pair struct {
	*testing.T
	d   *sector.Device
	m   *model
	met map[string]int // what was done, and what was answered, how often
}

// event: anything is done of both; what both answer.
func (x *pair) event(dice *samples.Dice) {
	what, e, want := "", api.OK, api.OK
	switch kind := dice.Roll(20); {
	case kind < 9:
		what = "write"
		i, p := dice.Roll(len(x.m.disk)+2)-1, anySector(dice)
		e, want = x.d.Write(i, p), x.m.write(i, p)
	case kind < 13:
		what = "read"
		i := dice.Roll(len(x.m.disk)+2) - 1
		var p []byte
		var s string
		p, e = x.d.Read(i)
		s, want = x.m.read(i)
		if string(p) != s {
			x.Fatalf("Read(%d) = %x, and not %x", i, p, s)
		}
	case kind < 15:
		what = "sync"
		e, want = x.d.Sync(), x.m.sync()
	case kind < 17:
		what = "arm"
		n := dice.Roll(15) - 3
		e = x.d.Arm(n)
		if n < 0 {
			want = api.ErrArg
		} else {
			x.m.left = n
		}
	case kind == 17 || x.m.off:
		what = "restart"
		way := len(x.m.way)
		keep, torn, cut := anyKeep(dice, way), dice.Roll(way+3)-1, dice.Roll(2*api.Sector)-api.Sector/2
		if dice.Roll(9) == 0 {
			torn, cut = []int{torn, math.MinInt, math.MaxInt}[dice.Roll(3)], []int{math.MinInt, -1, 0, 255, 256, math.MaxInt}[dice.Roll(6)]
		}
		e = x.d.Restart(keep, torn, cut)
		x.m.restart(keep, torn, cut)
	}
	x.met[what+" "+strconv.Itoa(int(e))]++
	if e != want || x.d.Ops() != x.m.ops || x.d.Way() != len(x.m.way) || x.d.On() == x.m.off || x.d.Len() != len(x.m.disk) {
		x.Fatalf("%s: %d, and not %d; Ops, Way, On, Len = %d, %d, %t, %d, and not those of %d, %d, %t, %d", what, e, want, x.d.Ops(), x.d.Way(), x.d.On(), x.d.Len(), x.m.ops, len(x.m.way), !x.m.off, len(x.m.disk))
	}
}

// all fails where a sector isn't as in the model.
func (x *pair) all() {
	for i := range x.m.disk {
		s, want := x.m.read(i)
		if p, e := x.d.Read(i); string(p) != s || e != want {
			x.Fatalf("Read(%d) = %x, %d, and not %x, %d", i, p, e, s, want)
		}
	}
}

// newPair: a new device of n sectors.
func newPair(t *testing.T, n int) *pair {
	m := &model{}
	for range n {
		m.disk = append(m.disk, strings.Repeat("\x00", api.Sector))
	}
	return &pair{t, made(t, n), m, map[string]int{}}
}

// TestP14_2_AsTold holds a device to the document at many events.
func TestP14_2_AsTold(t *testing.T) {
	dice := samples.Dice(14)
	met := map[string]int{}
	for range 400 {
		x := newPair(t, 1+dice.Roll(5))
		for range 200 {
			x.event(&dice)
			if !x.m.off {
				x.all()
			}
		}
		for what, n := range x.met {
			met[what] += n
		}
	}
	for _, what := range []string{"write 0", "write 1", "write 3", "write 14", "read 0", "read 1", "read 14", "sync 0", "sync 14", "arm 0", "arm 1", "restart 0"} {
		if met[what] < 100 {
			t.Errorf("an event and its answer, %s, were met only %d times of %v", what, met[what], met)
		}
	}
}

// TestP2_Again: what is told again is answered again, whatever other devices there are.
func TestP2_Again(t *testing.T) {
	one, other := samples.Dice(3), samples.Dice(3)
	x, y := newPair(t, 3), newPair(t, 3)
	for range 2000 {
		x.event(&one)
		y.event(&other)
		for i := range 3 {
			p, e := x.d.Read(i)
			if q, f := y.d.Read(i); string(p) != string(q) || e != f {
				t.Fatalf("two devices that were told the same: %x, %d and %x, %d", p, e, q, f)
			}
		}
	}
}

// TestP14_2_AllFalls: of four writes of two sectors all that may be kept or torn, with the power on and off ahead of it.
func TestP14_2_AllFalls(t *testing.T) {
	for set := range 1 << 4 {
		keep := make([]bool, 4)
		for i := range keep {
			keep[i] = set>>i&1 == 1
		}
		for torn := -1; torn <= 4; torn++ {
			for _, cut := range []int{-1, 0, 1, 100, 255, 256, 257} {
				for off := range 3 {
					x := newPair(t, 2)
					for i, c := range []byte("abcd") {
						if off == 1 && i == 3 {
							is(t, "Arm", x.d.Arm(1), api.OK)
							x.m.left = 1
						}
						is(t, "Write", x.d.Write(i%2, full(c)), x.m.write(i%2, full(c)))
					}
					if off == 2 {
						is(t, "Arm", x.d.Arm(1), api.OK)
						x.m.left = 1
						is(t, "Sync", x.d.Sync(), x.m.sync())
					}
					restarts(t, x.d, keep, torn, cut)
					x.m.restart(keep, torn, cut)
					x.all()
				}
			}
		}
	}
}
