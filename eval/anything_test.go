package eval_test

import (
	"reflect"
	"slices"
	"strings"
	"sync"
	"testing"

	"staddle/api"
	"staddle/eval"
	"staddle/parse"
	"staddle/samples"
)

// sound fails where something stands beside an error, or more steps are told than fuel.
func sound(t *testing.T, what any, fuel int, r eval.Result, e api.Errno) {
	t.Helper()
	if e != api.OK && !reflect.DeepEqual(r, eval.Result{}) || e == api.OK && (r.Text == "" || r.Steps < 1 || r.Steps > fuel) || len(r.Text) > api.MaxString {
		t.Errorf("%.300v at %d: %.300v, %d", what, fuel, r, e)
	}
}

func TestP1_AnyTextEnds(t *testing.T) {
	d := samples.Dice(12)
	bits := strings.Fields(`x y x y 1 0 "s" "${ }" ( ) [ ] { } { } ; ; : , ? = = . ... + - ! // == ++ || let in if then else with assert inherit rec or map toString derivation throw true null`)
	for range 30000 {
		var l []string
		for range d.Roll(14) {
			l = append(l, bits[d.Roll(len(bits))])
		}
		fuel := d.Roll(300)
		r, at, e := eval.Text(strings.Join(l, " "), fuel)
		sound(t, l, fuel, r, e)
		if e == api.OK && at != 0 {
			t.Errorf("%v: a place, %d", l, at)
		}
	}
	for n := range 2000 {
		s := string(d.Bytes(n % 50))
		r, _, e := eval.Text(s, 99)
		sound(t, s, 99, r, e)
	}
}

// TestP1_AnyExpressionEnds: of expressions that no parser answers nothing is promised but that.
func TestP1_AnyExpressionEnds(t *testing.T) {
	d := samples.Dice(13)
	texts := []string{"", "x", "+", "&&", "==", "//", "<", "map", "toString", "a", "?"}
	var any func(deep int) api.Expr
	any = func(deep int) api.Expr {
		x := api.Expr{Kind: byte(d.Roll(19)), N: int64(d.Roll(3)) - 1, Text: texts[d.Roll(len(texts))], Open: d.Roll(2) == 0, At: d.Roll(9) - 4}
		for range d.Roll(3) {
			x.Names = append(x.Names, texts[d.Roll(len(texts))])
		}
		for range d.Roll(3) {
			x.Has = append(x.Has, d.Roll(2) == 0)
		}
		for range d.Roll(4) {
			if deep > 0 {
				x.Kids = append(x.Kids, any(deep-1))
			}
		}
		return x
	}
	for range 100000 {
		x := any(4)
		r, e := eval.Run(x, 500)
		sound(t, x, 500, r, e)
	}
	for kind := range 256 {
		for _, x := range []api.Expr{
			{Kind: byte(kind)},
			{Kind: byte(kind), Names: []string{"a", "b"}},
			{Kind: byte(kind), Names: []string{"a"}, Kids: make([]api.Expr, 1)},
			{Kind: byte(kind), Names: []string{"a"}, Kids: make([]api.Expr, 2), Has: make([]bool, 1)},
			{Kind: byte(kind), Kids: make([]api.Expr, 9), Has: make([]bool, 9)},
		} {
			r, e := eval.Run(x, 500)
			sound(t, x, 500, r, e)
			r, e = eval.Run(api.Expr{Kind: api.ECall, Kids: []api.Expr{x, x}}, 500)
			sound(t, x, 500, r, e)
		}
	}
	for _, x := range []api.Expr{{}, {Kind: 18}, {Kind: 255}, {Kind: api.EOp, Text: "?", Kids: []api.Expr{{Kind: api.ENum}, {Kind: api.ENum}}}, {Kind: api.ENot}} {
		if r, e := eval.Run(x, 99); !reflect.DeepEqual(r, eval.Result{}) || e != api.ErrForm {
			t.Errorf("Run(%v) = %v, %d", x, r, e)
		}
	}
	long := api.Expr{Kind: api.EList, Kids: make([]api.Expr, api.MaxItems+1)}
	if _, e := eval.Run(long, 99); e != api.ErrLong {
		t.Errorf("a list of too many: %d", e)
	}
}

// TestP1_MuchEnds: what takes all fuel, in depth, in breadth and in size.
func TestP1_MuchEnds(t *testing.T) {
	for s, want := range map[string]api.Errno{
		"let f = n: if n == 0 then 0 else f (n - 1) + f (n - 1); in f 60":                                api.ErrFuel,
		"let f = l: if length l == 4096 then map (n: length (map (m: m) l)) l else f (l ++ l); in f [1]": api.ErrFuel,
		"let l = map (n: l) [1 2]; in toString l":                                                        api.ErrDeep,
		"let l = [l l]; in l == l":                                                                       api.ErrDeep,
		"let s = {a = s // {b = s;};}; in s":                                                             api.ErrDeep,
		"let s = rec {outPath = {outPath = s;};}; in toString [s]":                                       api.ErrFuel,
		"let f = x: f (x // {a = x;}); in f {}":                                                          api.ErrDeep,
		`let f = n: s: if n == 0 then s else f (n - 1) (s + s); in f 17 "x"`:                             api.ErrLong,
		`let f = n: l: if n == 0 then l else f (n - 1) (l ++ l); in toString (map (d: derivation {name = "a"; recipe = "${d}";}) (f 12 [1]))`: api.ErrLong,
		"with {x = with {y = x;}; y;}; x": api.ErrName,
	} {
		fails(t, s, api.MaxFuel, want)
	}
}

// TestP1_LongWays: each part here is isList of the one of the list ahead, 2048 of them, and none has been asked ahead of the last.
func TestP1_LongWays(t *testing.T) {
	shows(t, "let t = n: l: if n == 0 then map isList l else (let k = t (n - 1) l; in if isList k then t (n - 1) k else 0); in elemAt (t 11 [1]) 0", "false")
}

// roomy is the same expression with spare room, and something in it, behind each of its lists.
func roomy(x api.Expr) api.Expr {
	kids := slices.Clone(x.Kids)
	for i := range kids {
		kids[i] = roomy(kids[i])
	}
	x.Names = append(slices.Clone(x.Names), "spare")[:len(x.Names)]
	x.Has = append(slices.Clone(x.Has), true)[:len(x.Has)]
	x.Kids = append(kids, api.Expr{Text: "spare"})[:len(x.Kids)]
	return x
}

// intact: is an expression that roomy made still as it was, its spare room too?
func intact(x, was api.Expr) bool {
	n := len(x.Kids)
	if n != len(was.Kids) || x.Names[:len(x.Names)+1][len(x.Names)] != "spare" || !x.Has[:len(x.Has)+1][len(x.Has)] || x.Kids[:n+1][n].Text != "spare" {
		return false
	}
	for i := range n {
		if !intact(x.Kids[i], was.Kids[i]) {
			return false
		}
	}
	return x.Kind == was.Kind && x.N == was.N && x.Text == was.Text && x.Open == was.Open && x.At == was.At && slices.Equal(x.Names, was.Names) && slices.Equal(x.Has, was.Has)
}

// many has something of all.
const many = `let
	a = derivation {name = "a"; recipe = "x";};
	b = derivation {name = "b"; recipe = "copy ${a} . ${storePath "00000000000000000000000000000000-p"}";};
	f = {x, y ? x, ...}: x * y;
	g = n: if n < 2 then n else g (n - 1) + g (n - 2);
	s = rec {p = 1; q = p; inherit g; inherit (a) name;};
in with s // {z = [1 2];}; assert !(p == 2) && true; [a b (f {x = 2; w = 0;}) (map g (z ++ [5])) name (-p) (toString z) (attrNames s) s.none or null (x: x)]`

func TestP2_Many(t *testing.T) {
	x, _, e := parse.Parse(many)
	if e != api.OK {
		t.Fatalf("Parse = %d", e)
	}
	was, handed := roomy(x), roomy(x)
	want, e := eval.Run(handed, api.MaxFuel)
	model, fault := modelOf(x, api.MaxFuel)
	if e != api.OK || fault != api.OK || !reflect.DeepEqual(want, model) || len(want.Made) != 2 {
		t.Fatalf("Run = %v, %d, and not %v, %d", want, e, model, fault)
	}
	if !intact(handed, was) {
		t.Error("what was handed in has changed")
	}
	for fuel := range want.Steps {
		if r, e := eval.Run(handed, fuel); !reflect.DeepEqual(r, eval.Result{}) || e != api.ErrFuel {
			t.Errorf("Run at %d = %v, %d", fuel, r, e)
		}
	}
	// Neither what was handed in nor what was answered is kept.
	first, _ := eval.Run(handed, api.MaxFuel)
	for i := range first.Made[:cap(first.Made)] {
		made := &first.Made[:cap(first.Made)][i]
		for _, l := range [][]string{made.Drv.Drvs, made.Drv.Sources} {
			for j := range l[:cap(l)] {
				l[:cap(l)][j] = "#"
			}
		}
		*made = eval.Made{}
	}
	again, e := eval.Run(handed, api.MaxFuel)
	if e != api.OK || !reflect.DeepEqual(again, want) || !intact(handed, was) {
		t.Errorf("Run = %v, and then %v, %d", want, again, e)
	}
	spoil(handed)
	if !reflect.DeepEqual(again, want) {
		t.Error("an answer has changed with what was handed in")
	}
	if r, _, e := eval.Text(many, api.MaxFuel); e != api.OK || !reflect.DeepEqual(r, want) {
		t.Errorf("Text = %v, %d", r, e)
	}
}

// spoil writes over all of an expression's lists, and over their spare room.
func spoil(x api.Expr) {
	for _, kid := range x.Kids {
		spoil(kid)
	}
	for i := range x.Names[:cap(x.Names)] {
		x.Names[:cap(x.Names)][i] = "#"
	}
	clear(x.Has[:cap(x.Has)])
	clear(x.Kids[:cap(x.Kids)])
}

// TestP2_ListsOfAnAnswer: no two lists of an answer share memory.
func TestP2_ListsOfAnAnswer(t *testing.T) {
	want, _, e := eval.Text(many, api.MaxFuel)
	r, _, f := eval.Text(many, api.MaxFuel)
	if e != api.OK || f != api.OK {
		t.Fatalf("%d, %d", e, f)
	}
	var l [][]string
	for _, made := range r.Made {
		l = append(l, made.Drv.Drvs, made.Drv.Sources)
	}
	for i, a := range l {
		for j := range a[:cap(a)] {
			a[:cap(a)][j] = "#" + string(rune('0'+i))
		}
	}
	for i, a := range l {
		for _, s := range a[:cap(a)] {
			if s != "#"+string(rune('0'+i)) {
				t.Errorf("list %d has %s", i, s)
			}
		}
	}
	if again, _, _ := eval.Text(many, api.MaxFuel); !reflect.DeepEqual(again, want) {
		t.Errorf("%v, and then %v", want, again)
	}
}

// TestP2_AtOnce: calls that run at once have nothing to do with one another.
func TestP2_AtOnce(t *testing.T) {
	x, _, _ := parse.Parse(many)
	want, _ := eval.Run(x, api.MaxFuel)
	var all sync.WaitGroup
	for i := range 16 {
		all.Go(func() {
			for range 20 {
				if r, e := eval.Run(x, api.MaxFuel); e != api.OK || !reflect.DeepEqual(r, want) {
					t.Errorf("%d: %v, %d", i, r, e)
				}
				if _, e := eval.Run(x, 50); e != api.ErrFuel {
					t.Errorf("%d: %d", i, e)
				}
			}
		})
	}
	all.Wait()
}
