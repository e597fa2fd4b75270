package journal_test

import (
	"bytes"
	"math"
	"slices"
	"strings"
	"testing"

	"staddle/api"
	"staddle/journal"
	"staddle/samples"
	"staddle/sector"
)

// state is what a journal tells, or should.
type state struct {
	base    string
	records []string
}

// with: a state and one more record.
func (s state) with(record string) state {
	return state{s.base, append(slices.Clone(s.records), record)}
}

// is: are two states the same?
func (s state) is(other state) bool {
	return s.base == other.base && slices.Equal(s.records, other.records)
}

// size: how many bytes it takes of the room.
func (s state) size() int {
	n := journal.Head + len(s.base)
	for _, r := range s.records {
		n += journal.Head + len(r)
	}
	return n
}

// seen: what a journal tells.
func seen(j *journal.Journal) state {
	s := state{base: string(j.Base())}
	for _, p := range j.Records() {
		s.records = append(s.records, string(p))
	}
	return s
}

// short: a state that can be read in a message.
func short(s state) string {
	cut := func(text string) string {
		if len(text) > 12 {
			return text[:12] + ".."
		}
		return text
	}
	l := []string{"base " + cut(s.base)}
	for _, r := range s.records {
		l = append(l, cut(r))
	}
	return strings.Join(l, ", ")
}

// is fails where a call answers another error.
func is(t *testing.T, what string, e, want api.Errno) {
	t.Helper()
	if e != want {
		t.Fatalf("%s = %d, and not %d", what, e, want)
	}
}

// tells fails where a journal tells another state, or numbers that aren't of it.
func tells(t *testing.T, j *journal.Journal, want state) {
	t.Helper()
	if got := seen(j); !got.is(want) {
		t.Fatalf("it tells %q, and not %q", short(got), short(want))
	}
	if free := max(j.Room()-want.size()-journal.Head, 0); j.Free() != free {
		t.Fatalf("Free = %d, and not %d", j.Free(), free)
	}
}

// made: a device.
func made(t *testing.T, n int) *sector.Device {
	t.Helper()
	d, e := sector.New(n)
	is(t, "sector.New", e, api.OK)
	return d
}

// opened: the journal of a device.
func opened(t *testing.T, d *sector.Device) *journal.Journal {
	t.Helper()
	j, e := journal.Open(d)
	is(t, "Open", e, api.OK)
	if j == nil {
		t.Fatal("Open = nil")
	}
	return j
}

// fresh: a device with an empty journal, and that.
func fresh(t *testing.T, n int) (*sector.Device, *journal.Journal) {
	t.Helper()
	d := made(t, n)
	is(t, "Format", journal.Format(d), api.OK)
	return d, opened(t, d)
}

// refuses fails where a device can be opened, or there is another error.
func refuses(t *testing.T, d *sector.Device, want api.Errno) {
	t.Helper()
	if j, e := journal.Open(d); j != nil || e != want {
		t.Fatalf("Open = %v, %d, and not %d", j, e, want)
	}
}

// falls lets the power go off and on; all that was on its way is lost.
func falls(t *testing.T, d *sector.Device) {
	t.Helper()
	is(t, "Restart", d.Restart(nil, -1, 0), api.OK)
}

// off lets the power go off.
func off(t *testing.T, d *sector.Device) {
	t.Helper()
	is(t, "Arm", d.Arm(1), api.OK)
	is(t, "Sync", d.Sync(), api.ErrCrash)
}

// appends fails where a record can't be.
func appends(t *testing.T, j *journal.Journal, l ...string) {
	t.Helper()
	for _, p := range l {
		is(t, "Append", j.Append([]byte(p)), api.OK)
	}
}

// resets fails where a base can't be.
func resets(t *testing.T, j *journal.Journal, base string) {
	t.Helper()
	is(t, "Reset", j.Reset([]byte(base)), api.OK)
}

// image: all sectors of a device.
func image(t *testing.T, d *sector.Device) [][]byte {
	t.Helper()
	var l [][]byte
	for i := range d.Len() {
		p, e := d.Read(i)
		is(t, "Read", e, api.OK)
		l = append(l, p)
	}
	return l
}

// written: a device with these sectors, which are on their way.
func written(t *testing.T, l [][]byte) *sector.Device {
	t.Helper()
	d := made(t, len(l))
	for i, p := range l {
		is(t, "Write", d.Write(i, p), api.OK)
	}
	return d
}

// many: n bytes that look like nothing.
func many(n int) string {
	d := samples.Dice(n)
	return string(d.Bytes(n))
}

func TestP15_1_Half(t *testing.T) {
	for n, want := range map[int]int{math.MinInt: 0, -5: 0, -1: 0, 0: 0, 1: 0, 2: 0, 3: 0, 4: 1, 5: 1, 6: 2, 7: 2, 8: 3, 9: 3, 100: 49, 101: 49, 8191: 4094, 8192: 4095, 8193: 4095, 1<<32 + 2: 1 << 31, math.MaxInt: math.MaxInt/2 - 1} {
		if got := journal.Half(n); got != want {
			t.Errorf("Half(%d) = %d, and not %d", n, got, want)
		}
	}
	if journal.Head != 32 {
		t.Errorf("Head = %d", journal.Head)
	}
}

// TestP15_1_Example is the document's.
func TestP15_1_Example(t *testing.T) {
	d, j := fresh(t, 6)
	appends(t, j, "a", "b")
	off(t, d)
	falls(t, d)
	tells(t, opened(t, d), state{"", []string{"a", "b"}})
}

func TestP15_1_Format(t *testing.T) {
	for _, n := range []int{6, 7, 8, 9, 50, 51, api.MaxSectors - 1, api.MaxSectors} {
		d := made(t, n)
		is(t, "Format", journal.Format(d), api.OK)
		if d.Way() != 0 {
			t.Errorf("%d writes are on their way behind Format", d.Way())
		}
		for range 2 {
			falls(t, d)
			j := opened(t, d)
			tells(t, j, state{})
			if want := journal.Half(n) * api.Sector; j.Room() != want || j.Free() != want-2*journal.Head {
				t.Errorf("Room, Free = %d, %d of %d sectors", j.Room(), j.Free(), n)
			}
		}
	}
}

func TestP15_1_FormatWrong(t *testing.T) {
	is(t, "Format(nil)", journal.Format(nil), api.ErrNone)
	for n := 1; n < 6; n++ {
		d := made(t, n)
		is(t, "Format of too few sectors", journal.Format(d), api.ErrArg)
		if d.Ops() != 0 {
			t.Errorf("a Format that was refused did %d operations", d.Ops())
		}
		off(t, d)
		is(t, "Format of too few sectors, off", journal.Format(d), api.ErrArg)
	}
	d := made(t, 6)
	off(t, d)
	is(t, "Format, off", journal.Format(d), api.ErrCrash)
	falls(t, d)
	refuses(t, d, api.ErrSum)
	is(t, "Format", journal.Format(d), api.OK)
	tells(t, opened(t, d), state{})
}

func TestP15_1_FormatAgain(t *testing.T) {
	d, j := fresh(t, 9)
	for k := range 5 {
		for range k {
			resets(t, j, many(300))
		}
		appends(t, j, many(200), "", "x")
		is(t, "Format", journal.Format(d), api.OK)
		falls(t, d)
		j = opened(t, d)
		tells(t, j, state{})
		// What was there has left no room taken, and nothing behind.
		appends(t, j, "a", many(j.Free()-2*journal.Head-1), "")
		tells(t, opened(t, d), state{"", []string{"a", many(j.Room() - 4*journal.Head - 1), ""}})
	}
}

// TestP15_1_FormatOverAnything: whatever stands on a device, be it a journal of which only a part is left, Format makes an empty one of it.
func TestP15_1_FormatOverAnything(t *testing.T) {
	d, j := fresh(t, 8)
	resets(t, j, many(100))
	appends(t, j, many(400), "x")
	l := image(t, d)
	dice := samples.Dice(1)
	for set := range 1 << len(l) {
		part := slices.Clone(l)
		for i := range part {
			if set>>i&1 == 1 {
				part[i] = dice.Bytes(api.Sector)
			}
		}
		d := written(t, part)
		is(t, "Format", journal.Format(d), api.OK)
		falls(t, d)
		j := opened(t, d)
		tells(t, j, state{})
		appends(t, j, many(300))
		resets(t, j, "base")
		appends(t, j, many(301))
		tells(t, opened(t, d), state{"base", []string{many(301)}})
	}
}

func TestP15_1_OpenWrong(t *testing.T) {
	refuses(t, nil, api.ErrNone)
	for n := 1; n < 6; n++ {
		d := made(t, n)
		refuses(t, d, api.ErrArg)
		off(t, d)
		refuses(t, d, api.ErrArg)
	}
	// There is no journal; the power is asked for ahead of it.
	for _, n := range []int{6, 7, 100, api.MaxSectors} {
		d := made(t, n)
		refuses(t, d, api.ErrSum)
		off(t, d)
		refuses(t, d, api.ErrCrash)
		falls(t, d)
		refuses(t, d, api.ErrSum)
	}
	d, j := fresh(t, 6)
	appends(t, j, "a")
	off(t, d)
	refuses(t, d, api.ErrCrash)
	falls(t, d)
	tells(t, opened(t, d), state{"", []string{"a"}})
}

// TestP15_1_OpenNoJournal: any bytes, or only a part of a journal's, are none.
func TestP15_1_OpenNoJournal(t *testing.T) {
	dice := samples.Dice(2)
	for range 200 {
		l := make([][]byte, 6+dice.Roll(9))
		for i := range l {
			l[i] = dice.Bytes(api.Sector)
		}
		refuses(t, written(t, l), api.ErrSum)
	}
	for _, c := range []byte{0x01, 0x20, 0x7f, 0x80, 0xff} {
		refuses(t, written(t, slices.Repeat([][]byte{bytes.Repeat([]byte{c}, api.Sector)}, 10)), api.ErrSum)
	}
	d, j := fresh(t, 8)
	resets(t, j, many(100))
	appends(t, j, "x")
	l := image(t, d)
	for _, behind := range []bool{false, true} {
		part := slices.Clone(l)
		for i := range part {
			if behind == (i >= 2) {
				part[i] = dice.Bytes(api.Sector)
			}
		}
		d := written(t, part)
		ops := d.Ops()
		refuses(t, d, api.ErrSum)
		if d.Ops() != ops || d.Way() != len(l) {
			t.Error("an Open that was refused has changed what the device tells")
		}
	}
}

// TestP15_1_OpenIsDurable: what is read of writes that are on their way is durable when Open tells it.
func TestP15_1_OpenIsDurable(t *testing.T) {
	d, j := fresh(t, 8)
	resets(t, j, "base")
	appends(t, j, "a", many(300), "c")
	want := seen(j)
	d = written(t, image(t, d))
	// The power may go off in that, as often as may be.
	for range 3 {
		way := d.Way()
		is(t, "Arm", d.Arm(1), api.OK)
		refuses(t, d, api.ErrCrash)
		is(t, "Restart", d.Restart(slices.Repeat([]bool{true}, way), -1, 0), api.OK)
		d = written(t, image(t, d))
	}
	tells(t, opened(t, d), want)
	falls(t, d)
	tells(t, opened(t, d), want)
}

func TestP15_2_Append(t *testing.T) {
	d, j := fresh(t, 20)
	want := state{}
	// Of many lengths, so that what stands ahead of a record ends everywhere in a sector, and all bytes are there.
	for n := 0; j.Free() > n; n++ {
		p := many(n)
		appends(t, j, p)
		want = want.with(p)
		tells(t, j, want)
		if d.Way() != 0 {
			t.Fatalf("%d writes are on their way behind Append", d.Way())
		}
		falls(t, d)
		tells(t, opened(t, d), want)
	}
	all := make([]byte, 256)
	for i := range all {
		all[i] = byte(i)
	}
	resets(t, j, string(all))
	appends(t, j, string(all), strings.Repeat("\x00", 600), strings.Repeat("\xff", 300), "")
	tells(t, opened(t, d), state{string(all), []string{string(all), strings.Repeat("\x00", 600), strings.Repeat("\xff", 300), ""}})
}

// TestP15_2_AppendEdges: records that end at the end of a sector, or close by, with others behind them.
func TestP15_2_AppendEdges(t *testing.T) {
	for n := 2*api.Sector - 3*journal.Head - 3; n <= 2*api.Sector-journal.Head+3; n++ {
		for _, next := range []string{"", "x", many(200), many(300)} {
			d, j := fresh(t, 14)
			p := many(n)
			appends(t, j, p, next, "end")
			want := state{"", []string{p, next, "end"}}
			tells(t, j, want)
			falls(t, d)
			j = opened(t, d)
			tells(t, j, want)
			appends(t, j, next)
			tells(t, opened(t, d), want.with(next))
		}
	}
}

func TestP15_2_Reset(t *testing.T) {
	d, j := fresh(t, 8)
	for n := 0; n <= j.Room()-journal.Head; n += 7 {
		p := many(n)
		resets(t, j, p)
		if d.Way() != 0 {
			t.Fatalf("%d writes are on their way behind Reset", d.Way())
		}
		want := state{base: p}
		tells(t, j, want)
		falls(t, d)
		if n%2 == 0 {
			j = opened(t, d)
		}
		tells(t, j, want)
		if j.Free() > 0 {
			appends(t, j, "r")
			tells(t, j, want.with("r"))
			tells(t, opened(t, d), want.with("r"))
		}
	}
	// None again.
	resets(t, j, "")
	tells(t, opened(t, d), state{})
}

// TestP15_2_Full: all of the room can be taken, by a base and by records, and not a byte more.
func TestP15_2_Full(t *testing.T) {
	for _, n := range []int{6, 7, 8, 30, api.MaxSectors} {
		d, j := fresh(t, n)
		full := func(e, want api.Errno, now state) {
			t.Helper()
			is(t, "what is too much", e, want)
			tells(t, j, now)
			tells(t, opened(t, d), now)
		}
		// One record.
		room := j.Room()
		full(j.Append([]byte(many(room-2*journal.Head+1))), api.ErrFull, state{})
		full(j.Append(make([]byte, 2*room)), api.ErrFull, state{})
		p := many(room - 2*journal.Head)
		appends(t, j, p)
		full(j.Append(nil), api.ErrFull, state{"", []string{p}})
		// The base.
		full(j.Reset([]byte(many(room-journal.Head+1))), api.ErrFull, state{"", []string{p}})
		full(j.Reset(make([]byte, 3*room)), api.ErrFull, state{"", []string{p}})
		b := many(room - journal.Head)
		resets(t, j, b)
		full(j.Append(nil), api.ErrFull, state{base: b})
		full(j.Append([]byte("x")), api.ErrFull, state{base: b})
		falls(t, d)
		j = opened(t, d)
		tells(t, j, state{base: b})
		// Both, and the room that is left is less than, or just, what no byte takes.
		for less := range 2 * journal.Head {
			resets(t, j, b[less:])
			now := state{base: b[less:]}
			if less < journal.Head {
				full(j.Append(nil), api.ErrFull, now)
				continue
			}
			full(j.Append(make([]byte, less-journal.Head+1)), api.ErrFull, now)
			r := many(less - journal.Head)
			appends(t, j, r)
			full(j.Append(nil), api.ErrFull, now.with(r))
			if n > 30 && less > journal.Head {
				break
			}
		}
	}
}

// TestP15_2_FullOfHeads: records without bytes take room, too.
func TestP15_2_FullOfHeads(t *testing.T) {
	d, j := fresh(t, 9)
	want := state{}
	for range j.Room()/journal.Head - 1 {
		appends(t, j, "")
		want = want.with("")
	}
	is(t, "Append", j.Append(nil), api.ErrFull)
	falls(t, d)
	j = opened(t, d)
	tells(t, j, want)
	is(t, "Append", j.Append(nil), api.ErrFull)
	resets(t, j, "")
	tells(t, opened(t, d), state{})
}

// TestP15_2_Off: with the power off nothing is done, and what has no room is told first.
func TestP15_2_Off(t *testing.T) {
	d, j := fresh(t, 7)
	resets(t, j, "b")
	appends(t, j, "r")
	want := state{"b", []string{"r"}}
	for _, p := range []string{"", "x", many(j.Free())} {
		off(t, d)
		for range 2 {
			is(t, "Append, off", j.Append([]byte(p)), api.ErrCrash)
			is(t, "Reset, off", j.Reset([]byte(p)), api.ErrCrash)
			is(t, "Append, off and too long", j.Append(make([]byte, j.Free()+1)), api.ErrFull)
			is(t, "Reset, off and too long", j.Reset(make([]byte, j.Room()-journal.Head+1)), api.ErrFull)
			tells(t, j, want)
		}
		is(t, "Restart", d.Restart(slices.Repeat([]bool{true}, 9), -1, 0), api.OK)
		tells(t, j, want)
		tells(t, opened(t, d), want)
	}
	appends(t, j, "s")
	tells(t, opened(t, d), want.with("s"))
}

func TestP15_3_RoomFree(t *testing.T) {
	for n := 6; n < 40; n++ {
		_, j := fresh(t, n)
		room := (n - 2) / 2 * 256
		free := room - 64
		for k := 0; ; k += 9 {
			if j.Room() != room || j.Free() != free {
				t.Fatalf("Room, Free = %d, %d, and not %d, %d", j.Room(), j.Free(), room, free)
			}
			if k > free {
				break
			}
			appends(t, j, many(k))
			free = max(free-k-32, 0)
		}
		for less := range 70 {
			resets(t, j, many(room-32-less))
			if want := max(less-32, 0); j.Free() != want {
				t.Fatalf("Free = %d, and not %d", j.Free(), want)
			}
		}
	}
}

func TestP15_3_Nil(t *testing.T) {
	var j *journal.Journal
	is(t, "Append", j.Append([]byte("a")), api.ErrNone)
	is(t, "Append", j.Append(nil), api.ErrNone)
	is(t, "Reset", j.Reset([]byte("a")), api.ErrNone)
	is(t, "Reset", j.Reset(make([]byte, 1<<21)), api.ErrNone)
	if len(j.Base()) != 0 || len(j.Records()) != 0 || j.Room() != 0 || j.Free() != 0 {
		t.Error("a nil journal tells something")
	}
}

// TestP1_ZeroJournalEnds: nothing is promised of it but that no call panics.
func TestP1_ZeroJournalEnds(t *testing.T) {
	var j journal.Journal
	j.Append(nil)
	j.Append([]byte("a"))
	j.Reset(nil)
	j.Base()
	j.Records()
	j.Room()
	j.Free()
}

// TestP1_AnyDeviceEnds: whatever stands on a device, Open ends, and what it tells then was written some time.
func TestP1_AnyDeviceEnds(t *testing.T) {
	d, j := fresh(t, 8)
	appends(t, j, "old")
	resets(t, j, many(90))
	appends(t, j, many(150), "x", many(200))
	now := seen(j)
	good := image(t, d)
	look := func(l [][]byte) {
		t.Helper()
		d := written(t, l)
		j, e := journal.Open(d)
		if e != api.OK {
			is(t, "Open", e, api.ErrSum)
			return
		}
		s := seen(j)
		for len(s.records) < len(now.records) && s.base == now.base {
			s = s.with(now.records[len(s.records)])
		}
		if !s.is(now) && s.base != "" {
			t.Fatalf("it tells %q", short(s))
		}
		appends(t, j, "y")
		resets(t, j, "z")
	}
	for i := range good {
		for k := range api.Sector {
			for _, c := range []byte{0, 0xff, good[i][k] ^ 1, good[i][k] ^ 0x80} {
				l := slices.Clone(good)
				l[i] = bytes.Clone(l[i])
				l[i][k] = c
				look(l)
			}
			// Lengths beyond all bounds.
			l := slices.Clone(good)
			l[i] = bytes.Clone(l[i])
			copy(l[i][k:], "\xff\xff\xff\xff\xff\xff\xff\xff")
			look(l)
		}
	}
	mixed := func() {
		t.Helper()
		good = image(t, d)
		dice := samples.Dice(5)
		for range 2000 {
			l := slices.Clone(good)
			for range 1 + dice.Roll(3) {
				l[dice.Roll(len(l))] = good[dice.Roll(len(l))]
			}
			look(l)
		}
	}
	mixed()
	// Each sector of it is whole, in another place, too.
	d, j = fresh(t, 16)
	resets(t, j, many(api.Sector-journal.Head))
	for k := range 5 {
		appends(t, j, strings.Repeat(string(rune('a'+k)), api.Sector-journal.Head))
	}
	now = seen(j)
	mixed()
}

func TestP1_ManyRecordsEnd(t *testing.T) {
	d, j := fresh(t, api.MaxSectors)
	n := 0
	for ; j.Append([]byte{byte(n)}) == api.OK; n++ {
	}
	if want := (j.Room() - journal.Head) / (journal.Head + 1); n != want {
		t.Errorf("%d records have room, and not %d", n, want)
	}
	falls(t, d)
	l := opened(t, d).Records()
	if len(l) != n {
		t.Fatalf("%d records of %d are there", len(l), n)
	}
	for i, p := range l {
		if len(p) != 1 || p[0] != byte(i) {
			t.Fatalf("the record %d is %x", i, p)
		}
	}
	for range 20 {
		resets(t, j, many(j.Room()-journal.Head))
		resets(t, j, "")
	}
	tells(t, opened(t, d), state{})
}

func TestP2_WhatIsHandedInStays(t *testing.T) {
	d, j := fresh(t, 10)
	want := state{}
	for _, call := range []func([]byte) api.Errno{j.Append, j.Reset, j.Append, j.Append} {
		p := append(make([]byte, 0, 500), many(200)...)
		copy(p[:500][200:], many(300))
		is(t, "Append, Reset", call(p), api.OK)
		if string(p[:500]) != many(200)+many(300) {
			t.Fatal("what was handed in has changed, or its spare room")
		}
		// It may be written over.
		clear(p[:500])
		want = want.with(many(200))
	}
	want = state{many(200), want.records[:2]}
	tells(t, j, want)
	tells(t, opened(t, d), want)
}

func TestP2_AnswersAreNewMemory(t *testing.T) {
	d, j := fresh(t, 20)
	resets(t, j, many(90))
	want := state{base: many(90)}
	for k := range 12 {
		appends(t, j, many(k*9))
		want = want.with(many(k * 9))
	}
	for range 2 {
		var l [][]byte
		for range 3 {
			l = append(append(l, j.Base()), j.Records()...)
		}
		for k, p := range l {
			p = p[:cap(p)]
			for i := range p {
				p[i] = byte(k)
			}
		}
		for k, p := range l {
			if !bytes.Equal(p[:cap(p)], bytes.Repeat([]byte{byte(k)}, cap(p))) {
				t.Fatal("two answers share memory")
			}
		}
		list := j.Records()
		clear(list[:cap(list)])
		tells(t, j, want)
		appends(t, j, "more")
		want = want.with("more")
		tells(t, j, want)
		// Of one that was opened, too.
		j = opened(t, d)
	}
}

// TestP2_EarlierAnswersStay: what was told stays as it was, whatever is done behind it.
func TestP2_EarlierAnswersStay(t *testing.T) {
	_, j := fresh(t, 10)
	resets(t, j, "base")
	appends(t, j, "a", "b")
	base, l := j.Base(), j.Records()
	appends(t, j, "c")
	resets(t, j, "next")
	appends(t, j, "d")
	if string(base) != "base" || len(l) != 2 || string(l[0]) != "a" || string(l[1]) != "b" {
		t.Errorf("what was told is %q, %q now", base, l)
	}
}

// TestP2_Again: what is told again is answered again, and stands on the device again, whatever other journals there are.
func TestP2_Again(t *testing.T) {
	one, other := samples.Dice(6), samples.Dice(6)
	d, j := fresh(t, 12)
	c, i := fresh(t, 12)
	_, noise := fresh(t, 30)
	step := func(dice *samples.Dice, j *journal.Journal) api.Errno {
		if dice.Roll(8) == 0 {
			return j.Reset(dice.Bytes(dice.Roll(900)))
		}
		return j.Append(dice.Bytes(dice.Roll(200)))
	}
	for range 300 {
		is(t, "the other one", step(&other, i), step(&one, j))
		noise.Reset([]byte(many(d.Ops() % 999)))
		if !seen(j).is(seen(i)) || j.Free() != i.Free() || d.Ops() != c.Ops() || !slices.EqualFunc(image(t, d), image(t, c), bytes.Equal) {
			t.Fatal("two journals that were told the same aren't the same")
		}
	}
}
