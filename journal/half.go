package journal

import (
	"bytes"

	"staddle/api"
	"staddle/sector"
)

// ahead is how many sectors stand ahead of the halves: one of each half, with a number.
const ahead = 2

// newest: which half counts, and the number of its sector ahead; false: neither has one.
func newest(d *sector.Device) (half int, number uint64, there bool, e api.Errno) {
	for i := range ahead {
		l, e := d.Read(i)
		if e != api.OK {
			return 0, 0, false, e
		}
		n := numberOf(l)
		if _, ok := unpack(l, n); ok && (!there || later(n, number)) {
			half, number, there = i, n, true
		}
	}
	return half, number, there, api.OK
}

// clean: the sector ahead of a half has no number; not durable yet.
func clean(d *sector.Device, half int) api.Errno {
	return d.Write(half, make([]byte, api.Sector))
}

// point: the sector ahead of a half has that number; not durable yet.
func point(d *sector.Device, half int, number uint64) api.Errno {
	l := make([]byte, api.Sector)
	copy(l, pack(number, nil))
	return d.Write(half, l)
}

// first: the sector in which a half begins.
func first(d *sector.Device, half int) int {
	return ahead + half*Half(d.Len())
}

// whole: all bytes of a half.
func whole(d *sector.Device, half int) ([]byte, api.Errno) {
	var l []byte
	for i := range Half(d.Len()) {
		p, e := d.Read(first(d, half) + i)
		if e != api.OK {
			return nil, e
		}
		l = append(l, p...)
	}
	return l, api.OK
}

// lay: some bytes stand in a half, from a place on; not durable yet. What is ahead of them and behind them stays, and a sector that has them isn't written.
func lay(d *sector.Device, half, place int, p []byte) api.Errno {
	for len(p) > 0 {
		i := first(d, half) + place/api.Sector
		was, e := d.Read(i)
		if e != api.OK {
			return e
		}
		now := bytes.Clone(was)
		n := copy(now[place%api.Sector:], p)
		if !bytes.Equal(now, was) {
			e = d.Write(i, now)
		}
		if e != api.OK {
			return e
		}
		place, p = place+n, p[n:]
	}
	return api.OK
}
