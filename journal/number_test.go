package journal_test

import (
	"math"
	"slices"
	"testing"

	"staddle/api"
	"staddle/hash"
	"staddle/journal"
	"staddle/samples"
	"staddle/sector"
)

// ahead: a sector as it stands ahead of a half, with that number.
func ahead(number uint64) []byte {
	p := []byte{0x80, 0, 0, 0}
	for i := range 8 {
		p = append(p, byte(number>>(56-8*i)))
	}
	d := hash.Fold(hash.Of(p))
	return append(append(p, d[:]...), make([]byte, api.Sector-journal.Head)...)
}

// numbered: a device on which these stand ahead of its halves, durable, and noughts behind them; nil: noughts there, too.
func numbered(t *testing.T, sectors int, l ...[]byte) *sector.Device {
	t.Helper()
	d := made(t, sectors)
	for i, p := range l {
		if p != nil {
			is(t, "Write", d.Write(i, p), api.OK)
		}
	}
	is(t, "Sync", d.Sync(), api.OK)
	return d
}

// next: the number that follows the last one that stands ahead of the halves of a device with a journal, and the half that has none of these.
func next(t *testing.T, d *sector.Device) (int, uint64) {
	t.Helper()
	other, last := 1, uint64(0)
	for i, p := range image(t, d)[:2] {
		number := uint64(0)
		for _, c := range p[4:12] {
			number = number<<8 | uint64(c)
		}
		if number > last {
			other, last = 1-i, number
		}
	}
	return other, last + 1
}

// edges: numbers at the ends of their range, in its middle, and anywhere.
func edges() []uint64 {
	l := []uint64{0x0102030405060708, 1 << 32}
	for k := range uint64(5) {
		l = append(l, k, 1<<63-3+k, math.MaxUint64-k)
	}
	return l
}

// TestP15_1_FormatOverNumbers: whatever numbers stand on a device, Format makes an empty journal of it that goes on like any other.
func TestP15_1_FormatOverNumbers(t *testing.T) {
	var l [][]byte
	for _, number := range edges() {
		l = append(l, ahead(number))
	}
	l = append(l, nil)
	for _, one := range l {
		for _, other := range l {
			d := numbered(t, 12, one, other)
			is(t, "Format", journal.Format(d), api.OK)
			if d.Way() != 0 {
				t.Fatalf("%d writes are on their way behind Format", d.Way())
			}
			falls(t, d)
			j := opened(t, d)
			tells(t, j, state{})
			goesOn(t, d, j, state{})
			is(t, "Format", journal.Format(d), api.OK)
			falls(t, d)
			goesOn(t, d, opened(t, d), state{})
		}
	}
}

// TestP15_2_ManyNumbers: a journal whose numbers begin at any place goes on over the end of their range, at each call.
func TestP15_2_ManyNumbers(t *testing.T) {
	for _, number := range edges() {
		d := numbered(t, 8, nil, ahead(number))
		is(t, "Format", journal.Format(d), api.OK)
		j := opened(t, d)
		now := state{}
		for k := range 60 {
			if k%4 == 3 {
				resets(t, j, many(k))
				now = state{base: many(k)}
			} else {
				appends(t, j, many(k))
				now = now.with(many(k))
			}
			tells(t, j, now)
			falls(t, d)
			j = opened(t, d)
			tells(t, j, now)
		}
	}
}

// TestP3_AllFallsAtTheLastNumber: nor does it matter there where the power goes off.
func TestP3_AllFallsAtTheLastNumber(t *testing.T) {
	for _, middle := range []uint64{1 << 63, 0} {
		for k := range uint64(9) {
			for _, s := range []scene{
				appending(8, state{"b", []string{many(190)}}, many(100)),
				resetting(6, state{"b", []string{"r"}}, many(300)),
				formatting(6, state{"b", []string{"r"}}),
			} {
				s.number = middle + 1 - k
				allFalls(t, s)
			}
		}
	}
}

// TestP3_TornOverAnything: the sector whose turn it is has bytes that make another number, one that would count, with the first ones of the number that is written there: wherever that is torn, the call is done, or not, whole.
func TestP3_TornOverAnything(t *testing.T) {
	was := state{"b", []string{"r"}}
	for torn := 1; torn < 12; torn++ {
		for _, s := range []scene{resetting(6, was, "new"), formatting(6, was)} {
			s.number = 0x0101010101010101
			trapped := func() (*sector.Device, *journal.Journal) {
				d, _ := s.ahead(t)
				other, number := next(t, d)
				if same := 8 * (12 - max(torn, 4)); same < 64 {
					number |= 1<<same - 1
				} else {
					number += 1 << 40
				}
				p := slices.Concat(make([]byte, torn), ahead(number)[torn:])
				is(t, "Write", d.Write(other, p), api.OK)
				is(t, "Sync", d.Sync(), api.OK)
				j := opened(t, d)
				tells(t, j, was)
				return d, j
			}
			for op := 1; ; op++ {
				d, j := trapped()
				if cut(t, d, j, s, op) {
					break
				}
				for _, keep := range samples.Sets(d.Way()) {
					for i := range keep {
						d, j := trapped()
						cut(t, d, j, s, op)
						restarts(t, d, samples.Fall{Keep: keep, Torn: i, Cut: torn})
						j = opened(t, d)
						goesOn(t, d, j, either(t, j, was, s.now))
					}
				}
			}
		}
	}
}
