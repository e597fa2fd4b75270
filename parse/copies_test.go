package parse

import (
	"reflect"
	"strings"
	"testing"

	"staddle/api"
	"staddle/lex"
)

// TestP1_MoreCopiesThanPromised: nested inherits may make more copies than any memory holds; behind the bound, expressions share, and are the same.
func TestP1_MoreCopiesThanPromised(t *testing.T) {
	text := func(n int) string { return strings.Repeat("{inherit(", n) + "x" + strings.Repeat(")a b;}", n) }
	read := func(n, room int) api.Expr {
		list, _, _ := lex.Tokens(text(n))
		p := parser{rest: list, room: room}
		x, at, e := p.whole()
		if at != 0 || e != api.OK || p.room < 0 {
			t.Fatalf("%d with room for %d: %d, %d, %d", n, room, at, e, p.room)
		}
		return x
	}
	want := read(8, most)
	for room := range 300 {
		if !reflect.DeepEqual(read(8, room), want) {
			t.Fatalf("with room for %d it is another expression", room)
		}
	}
	// 1 + 4 + 10 + .. are copied; with less room some are shared.
	if x := read(1, 1); &x.Kids[0].Kids[0] == &x.Kids[1].Kids[0] {
		t.Error("with room for one a name is shared")
	}
	if x := read(1, 0); &x.Kids[0].Kids[0] != &x.Kids[1].Kids[0] {
		t.Error("without room a name is copied")
	}
	x := read(29, 100000)
	for range 29 {
		if x.Kind != api.ESet || len(x.Kids) != 2 || x.Names[1] != "b" || x.Kids[1].Text != "b" {
			t.Fatalf("%d, %d names", x.Kind, len(x.Names))
		}
		x = x.Kids[1].Kids[0]
	}
	if x.Text != "x" {
		t.Errorf("at the bottom: %s", x.Text)
	}
}

// TestP1_WhatIsThrown: what the parser does not throw itself is caught, too.
func TestP1_WhatIsThrown(t *testing.T) {
	p := parser{}
	if x, at, e := p.whole(); x.Kind != 0 || at != 0 || e != api.ErrText {
		t.Errorf("a parser without an end: %d, %d, %d", x.Kind, at, e)
	}
}
