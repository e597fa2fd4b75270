package journal_test

import (
	"strconv"
	"testing"

	"staddle/api"
	"staddle/journal"
	"staddle/samples"
	"staddle/sector"
)

// pair is a journal, and what the document says of it.
type pair struct {
	*testing.T
	d    *sector.Device
	j    *journal.Journal
	was  state
	now  state // what is there instead, if the call that was cut is done
	room int
	met  map[string]int // what was done, and what was answered, how often
}

// newPair: an empty journal on a device of n sectors.
func newPair(t *testing.T, n int, met map[string]int) *pair {
	d, j := fresh(t, n)
	return &pair{t, d, j, state{}, state{}, journal.Half(n) * api.Sector, met}
}

// did holds an answer to the document: a call that needs so much room, behind which there is that.
func (x *pair) did(what string, e api.Errno, on bool, size int, now state) {
	x.Helper()
	x.met[what+" "+strconv.Itoa(int(e))]++
	want := api.OK
	switch {
	case size > x.room:
		want = api.ErrFull
	case !x.d.On():
		want = api.ErrCrash
	}
	is(x.T, what, e, want)
	if e == api.OK {
		x.was = now
	}
	if e == api.OK || e == api.ErrCrash && on {
		x.now = now
	}
}

// event: anything is done.
func (x *pair) event(dice *samples.Dice) {
	x.Helper()
	on := x.d.On()
	switch kind := dice.Roll(20); {
	case kind < 10:
		p := dice.Bytes(dice.Roll(1 + dice.Roll(x.room)))
		if dice.Roll(3) == 0 {
			// Just what has room, or one more, but where there is none at all.
			p = dice.Bytes(x.j.Free() + dice.Roll(2))
		}
		now := x.was.with(string(p))
		x.did("Append", x.j.Append(p), on, now.size(), now)
	case kind < 13:
		p := dice.Bytes(dice.Roll(1 + dice.Roll(x.room+x.room/3)))
		now := state{base: string(p)}
		x.did("Reset", x.j.Reset(p), on, now.size(), now)
	case kind < 16:
		is(x.T, "Arm", x.d.Arm(dice.Roll(9)), api.OK)
	case kind == 16 && on:
		j, e := journal.Open(x.d)
		x.did("Open", e, on, 0, x.was)
		x.j = j
	case kind == 17 && dice.Roll(5) == 0:
		x.did("Format", journal.Format(x.d), on, 0, state{})
		x.fall(dice, true)
	case kind > 17 && on:
		x.fall(dice, dice.Roll(3) > 0)
	case kind > 15:
		x.fall(dice, dice.Roll(2) == 0)
	}
}

// fall: the power goes off and on, and the journal is opened anew, or used further.
func (x *pair) fall(dice *samples.Dice, anew bool) {
	x.Helper()
	fall := dice.Fall(x.d.Way())
	is(x.T, "Restart", x.d.Restart(fall.Keep, fall.Torn, fall.Cut), api.OK)
	if anew {
		x.j = opened(x.T, x.d)
	}
	got := either(x.T, x.j, x.was, x.now)
	if !x.was.is(x.now) {
		x.met["done "+strconv.FormatBool(got.is(x.now))]++
	}
	x.was, x.now = got, got
}

// TestP15_2_AsTold holds a journal to the document at many events.
func TestP15_2_AsTold(t *testing.T) {
	dice := samples.Dice(15)
	met := map[string]int{}
	for range 300 {
		x := newPair(t, 6+dice.Roll(12), met)
		for range 150 {
			x.event(&dice)
			if x.d.On() {
				tells(t, x.j, x.was)
			}
		}
	}
	for _, what := range []string{"Append 0", "Append 14", "Append 15", "Reset 0", "Reset 14", "Reset 15", "Open 0", "Format 0", "Format 14", "done true", "done false"} {
		if met[what] < 50 {
			t.Errorf("an event and its answer, %s, were met only %d times of %v", what, met[what], met)
		}
	}
}
