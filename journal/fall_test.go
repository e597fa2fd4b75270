package journal_test

import (
	"slices"
	"strconv"
	"strings"
	"testing"

	"staddle/api"
	"staddle/journal"
	"staddle/samples"
	"staddle/sector"
)

// scene is a journal, a call that may be cut, and what the journal has behind it.
type scene struct {
	sectors int
	was     state
	call    func(d *sector.Device, j *journal.Journal) api.Errno
	now     state
	anew    bool   // the journal itself isn't told of the call
	number  uint64 // of what stands on the device ahead of the journal; 0: nothing does
}

// appending: a scene of an Append.
func appending(sectors int, was state, p string) scene {
	return scene{sectors, was, func(_ *sector.Device, j *journal.Journal) api.Errno { return j.Append([]byte(p)) }, was.with(p), false, 0}
}

// resetting: a scene of a Reset.
func resetting(sectors int, was state, p string) scene {
	return scene{sectors, was, func(_ *sector.Device, j *journal.Journal) api.Errno { return j.Reset([]byte(p)) }, state{base: p}, false, 0}
}

// formatting: a scene of a Format.
func formatting(sectors int, was state) scene {
	return scene{sectors, was, func(d *sector.Device, _ *journal.Journal) api.Errno { return journal.Format(d) }, state{}, true, 0}
}

// scenes: records at all places of a sector and over several, bases, and Formats.
func scenes() []scene {
	var l []scene
	noughts := strings.Repeat("\x00", 300)
	for _, n := range []int{0, 1, 64, 128, 160, 190, 191, 192, 193, 200, 224} {
		for _, p := range []string{"", "x", many(160), many(256), many(700), noughts, "x" + noughts, noughts + "x"} {
			l = append(l, appending(12, state{"", []string{many(n)}}, p))
		}
	}
	for _, was := range []state{{}, {base: many(480)}, {"b", []string{"r", many(300)}}} {
		for _, p := range []string{"", "y", many(224), many(480), noughts, noughts + "x"} {
			l = append(l, resetting(6, was, p))
		}
		l = append(l, resetting(11, was, many(900)), formatting(6, was), formatting(11, was))
	}
	return l
}

// ahead: a device with a scene's journal, and that.
func (s scene) ahead(t *testing.T) (*sector.Device, *journal.Journal) {
	t.Helper()
	d := made(t, s.sectors)
	if s.number > 0 {
		d = numbered(t, s.sectors, ahead(s.number), nil)
	}
	is(t, "Format", journal.Format(d), api.OK)
	j := opened(t, d)
	resets(t, j, s.was.base)
	appends(t, j, s.was.records...)
	tells(t, j, s.was)
	return d, j
}

// cut does a scene's call; false: the power goes off in the n-th operation of it.
func cut(t *testing.T, d *sector.Device, j *journal.Journal, s scene, n int) bool {
	t.Helper()
	is(t, "Arm", d.Arm(n), api.OK)
	e := s.call(d, j)
	if e != api.OK {
		is(t, "what was cut", e, api.ErrCrash)
		return false
	}
	is(t, "Arm", d.Arm(0), api.OK)
	return true
}

// restarts lets the power go on again.
func restarts(t *testing.T, d *sector.Device, f samples.Fall) {
	t.Helper()
	is(t, "Restart", d.Restart(f.Keep, f.Torn, f.Cut), api.OK)
}

// either fails where a journal tells neither of two states; the one that it tells.
func either(t *testing.T, j *journal.Journal, was, now state) state {
	t.Helper()
	got := seen(j)
	if !got.is(was) && !got.is(now) {
		t.Fatalf("it tells %q, and neither %q nor %q", short(got), short(was), short(now))
	}
	tells(t, j, got)
	return got
}

// goesOn fails where not all that a journal tells is durable, or it can't be used like any other.
func goesOn(t *testing.T, d *sector.Device, j *journal.Journal, now state) {
	t.Helper()
	falls(t, d)
	tells(t, opened(t, d), now)
	for j.Free() >= 40 && len(now.records) < 5 {
		appends(t, j, "one")
		now = now.with("one")
		tells(t, j, now)
		falls(t, d)
		tells(t, opened(t, d), now)
	}
	for _, base := range []string{"two", "", "three"} {
		resets(t, j, base)
		appends(t, j, base, "\x00")
		now = state{base, []string{base, "\x00"}}
		tells(t, j, now)
		falls(t, d)
		tells(t, opened(t, d), now)
	}
}

// TestP3_AllFalls: wherever the power goes off in a call, and whatever is done then of what was on its way, the call is done, or not, whole; all goes on, with the journal that met it or with one that is opened.
func TestP3_AllFalls(t *testing.T) {
	for _, s := range scenes() {
		allFalls(t, s)
	}
}

// allFalls: the power goes off in each operation of a scene's call.
func allFalls(t *testing.T, s scene) {
	t.Helper()
	met := map[string]int{}
	for n := 1; ; n++ {
		d, j := s.ahead(t)
		if cut(t, d, j, s, n) {
			j = opened(t, d)
			tells(t, j, s.now)
			goesOn(t, d, j, s.now)
			break
		}
		met["cut"]++
		for k, f := range samples.Falls(d.Way()) {
			d, j := s.ahead(t)
			cut(t, d, j, s, n)
			either(t, j, s.was, s.now)
			restarts(t, d, f)
			if k%2 == 0 || s.anew {
				j = opened(t, d)
			}
			got := either(t, j, s.was, s.now)
			if got.is(s.was) {
				met["not done"]++
			} else {
				met["done"]++
			}
			goesOn(t, d, j, got)
		}
	}
	// An empty journal that is made an empty one is the same done or not.
	if met["cut"] < 2 || met["not done"] == 0 || met["done"] == 0 && !s.was.is(s.now) {
		t.Fatalf("a call with %q behind it met only %v", short(s.now), met)
	}
}

// TestP15_1_FormatCut: a Format of a device without a journal may be cut, and is done again.
func TestP15_1_FormatCut(t *testing.T) {
	dice := samples.Dice(8)
	for _, l := range [][][]byte{slices.Repeat([][]byte{make([]byte, api.Sector)}, 6), {dice.Bytes(256), dice.Bytes(256), dice.Bytes(256), dice.Bytes(256), dice.Bytes(256), dice.Bytes(256), dice.Bytes(256)}} {
		for n := 1; ; n++ {
			started := func() (*sector.Device, api.Errno) {
				d := written(t, l)
				is(t, "Sync", d.Sync(), api.OK)
				is(t, "Arm", d.Arm(n), api.OK)
				return d, journal.Format(d)
			}
			d, e := started()
			if e == api.OK {
				break
			}
			for _, f := range samples.Falls(d.Way()) {
				d, _ := started()
				restarts(t, d, f)
				if j, e := journal.Open(d); e == api.OK {
					tells(t, j, state{})
				} else {
					is(t, "Open", e, api.ErrSum)
				}
				is(t, "Format", journal.Format(d), api.OK)
				goesOn(t, d, opened(t, d), state{})
			}
		}
	}
}

// TestP3_FallUponFall: what a fall has left of a call does no harm to the next one, whenever that is cut, and whatever is done of it.
func TestP3_FallUponFall(t *testing.T) {
	was := state{"b", []string{many(150)}}
	for _, first := range []scene{appending(14, was, many(600)), appending(14, was, many(300)), resetting(14, was, many(700)), resetting(14, was, many(192)), formatting(14, was)} {
		for n := 1; ; n++ {
			d, j := first.ahead(t)
			if cut(t, d, j, first, n) {
				break
			}
			for _, f := range samples.Falls(d.Way()) {
				for _, p := range []string{"", many(20), many(290)} {
					for kind := range 2 {
						secondFall(t, first, n, f, func(now state) scene {
							if kind == 0 {
								return appending(14, now, p)
							}
							return resetting(14, now, p)
						})
					}
				}
			}
		}
	}
}

// secondFall: behind the fall f of the first call a second one is cut, at each of its operations; and then it is done.
func secondFall(t *testing.T, first scene, n int, f samples.Fall, second func(now state) scene) {
	t.Helper()
	for m := 1; ; m++ {
		d, j := first.ahead(t)
		cut(t, d, j, first, n)
		restarts(t, d, f)
		if m%2 == 0 || n%2 == 0 || first.anew {
			j = opened(t, d)
		}
		now := either(t, j, first.was, first.now)
		s := second(now)
		if cut(t, d, j, s, m) {
			tells(t, opened(t, d), s.now)
			return
		}
		way := samples.Falls(d.Way())
		restarts(t, d, way[(n*5+m*3)%len(way)])
		j = opened(t, d)
		now = either(t, j, now, s.now)
		s = second(now)
		is(t, "the second call", s.call(d, j), api.OK)
		tells(t, j, s.now)
		falls(t, d)
		tells(t, opened(t, d), s.now)
	}
}

// foreign: the bytes of the sectors in which a journal of which all is told by ahead keeps one more record.
func foreign(t *testing.T, sectors int, ahead func(j *journal.Journal)) string {
	t.Helper()
	d, j := fresh(t, sectors)
	ahead(j)
	l := image(t, d)
	appends(t, j, "foreign")
	var p []byte
	for i, was := range image(t, d) {
		if string(was) != string(l[i]) {
			p = append(p, was...)
		}
	}
	return string(p)
}

// TestP3_ForeignRecord: a record that was cut has bytes that look like another record; none of them is taken for one, when the record ahead of it is there.
func TestP3_ForeignRecord(t *testing.T) {
	const sectors = 12
	for n := range 260 {
		// Somewhere here the record ends with its sector, and what is left behind it begins there.
		short := many(n)
		trap := many(n) + foreign(t, sectors, func(j *journal.Journal) { appends(t, j, "ahead", short) })
		s := appending(sectors, state{"", []string{"ahead"}}, trap)
		for op := 1; ; op++ {
			d, j := fresh(t, sectors)
			appends(t, j, "ahead")
			if cut(t, d, j, s, op) {
				break
			}
			for _, keep := range samples.Sets(d.Way()) {
				trapped := func() (*sector.Device, *journal.Journal, state) {
					d, j := fresh(t, sectors)
					appends(t, j, "ahead")
					cut(t, d, j, s, op)
					restarts(t, d, samples.Fall{Keep: keep, Torn: -1, Cut: 0})
					j = opened(t, d)
					return d, j, either(t, j, s.was, s.now)
				}
				d, j, now := trapped()
				appends(t, j, short)
				now = now.with(short)
				tells(t, j, now)
				tells(t, opened(t, d), now)
				appends(t, j, "end")
				tells(t, opened(t, d), now.with("end"))
				trappedAgain(t, trapped, short)
			}
		}
	}
}

// trappedAgain: the record is cut, too, whatever is done then of what was on its way.
func trappedAgain(t *testing.T, trapped func() (*sector.Device, *journal.Journal, state), short string) {
	t.Helper()
	for op := 1; ; op++ {
		d, j, now := trapped()
		s := appending(d.Len(), now, short)
		if cut(t, d, j, s, op) {
			return
		}
		for _, keep := range samples.Sets(d.Way()) {
			d, j, _ := trapped()
			cut(t, d, j, s, op)
			restarts(t, d, samples.Fall{Keep: keep, Torn: -1, Cut: 0})
			either(t, opened(t, d), now, s.now)
		}
	}
}

// TestP3_TornNumbers: the power goes off at each operation of many Resets, and what is on its way is torn everywhere in a head: what says which half counts is never wrong.
func TestP3_TornNumbers(t *testing.T) {
	d, j := fresh(t, 6)
	now := state{}
	for k := range 140 {
		s := resetting(6, now, "base "+strconv.Itoa(k))
		for op := 1; !now.is(s.now); op++ {
			for torn := 0; torn < journal.Head && !now.is(s.now); torn++ {
				if cut(t, d, j, s, op) {
					now = s.now
					break
				}
				restarts(t, d, samples.Fall{Keep: nil, Torn: 0, Cut: torn})
				if torn%3 > 0 {
					j = opened(t, d)
				}
				now = either(t, j, now, s.now)
			}
		}
		tells(t, opened(t, d), now)
	}
}

// TestP3_ForeignBase: and so of a base that was cut, or is there no more.
func TestP3_ForeignBase(t *testing.T) {
	const sectors = 9
	for n := range 260 {
		short := many(n)
		trap := many(n) + foreign(t, sectors, func(j *journal.Journal) { resets(t, j, short) })
		s := resetting(sectors, state{}, trap)
		for op := 1; ; op++ {
			d, j := fresh(t, sectors)
			if cut(t, d, j, s, op) {
				break
			}
			for _, keep := range samples.Sets(d.Way()) {
				d, j := fresh(t, sectors)
				cut(t, d, j, s, op)
				restarts(t, d, samples.Fall{Keep: keep, Torn: -1, Cut: 0})
				j = opened(t, d)
				resets(t, j, short)
				tells(t, opened(t, d), state{base: short})
				appends(t, j, "end")
				tells(t, opened(t, d), state{short, []string{"end"}})
			}
		}
	}
}

// TestP3_OwnBytes: a journal's own sectors are records, and a base, like any other bytes.
func TestP3_OwnBytes(t *testing.T) {
	d, j := fresh(t, 40)
	appends(t, j, "a")
	now := state{"", []string{"a"}}
	for k := range 9 {
		for _, p := range image(t, d)[:5] {
			if j.Append(p[k*16:]) == api.OK {
				now = now.with(string(p[k*16:]))
				continue
			}
			resets(t, j, string(p))
			now = state{base: string(p)}
		}
		tells(t, opened(t, d), now)
	}
	l := image(t, d)
	resets(t, j, string(slices.Concat(l[1:10]...)))
	tells(t, opened(t, d), state{base: string(slices.Concat(l[1:10]...))})
}
