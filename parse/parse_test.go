package parse_test

import (
	"fmt"
	"reflect"
	"runtime/debug"
	"slices"
	"strconv"
	"strings"
	"sync"
	"testing"
	"unsafe"

	"staddle/api"
	"staddle/lex"
	"staddle/parse"
)

var kinds = [...]string{"-", "num", "str", "name", "list", "set", "rec", "sel", "call", "fn", "pat", "let", "if", "with", "assert", "op", "not", "neg"}

// told is an expression in one line: its kind and place, its number, text, names (those that it has of are marked), and its kids.
func told(x api.Expr) string {
	if reflect.DeepEqual(x, api.Expr{}) {
		return "-"
	}
	s := kinds[x.Kind] + "@" + strconv.Itoa(x.At)
	if x.N != 0 || x.Kind == api.ENum {
		s += " " + strconv.FormatInt(x.N, 10)
	}
	if x.Kind == api.EStr && len(x.Kids) == 0 {
		s += fmt.Sprintf("%q", x.Text)
	} else if x.Text != "" {
		s += " " + x.Text
	}
	if len(x.Names) > 0 || len(x.Has) > 0 || x.Open {
		s += " {" + strings.Join(names(x), " ") + "}"
	}
	if len(x.Kids) > 0 {
		var l []string
		for _, kid := range x.Kids {
			l = append(l, told(kid))
		}
		s += " [" + strings.Join(l, "; ") + "]"
	}
	return s
}

func names(x api.Expr) []string {
	var l []string
	for i := range max(len(x.Names), len(x.Has)) {
		switch {
		case i >= len(x.Names) || i >= len(x.Has):
			l = append(l, "WRONG")
		case x.Has[i]:
			l = append(l, x.Names[i]+"*")
		default:
			l = append(l, x.Names[i])
		}
	}
	if x.Open {
		l = append(l, "...")
	}
	return l
}

// gives fails where the expression of a text is not that which is told.
func gives(t *testing.T, s, want string) {
	t.Helper()
	if x, at, e := parse.Parse(s); told(x) != want || at != 0 || e != api.OK {
		t.Errorf("Parse(%.80q) = %.500s, %d, %d, and not %s", s, told(x), at, e, want)
	}
}

// fails fails where a text has not the fault that it has, at its place.
func fails(t *testing.T, s string, place int, want api.Errno) {
	t.Helper()
	if x, at, e := parse.Parse(s); told(x) != "-" || at != place || e != want {
		t.Errorf("Parse(%.80q) = %.300s, %d, %d, and not %d, %d", s, told(x), at, e, place, want)
	}
}

// cut is a text without its mark, a @, and the mark's place.
func cut(s string) (string, int) {
	place := strings.Index(s, "@")
	return s[:place] + s[place+1:], place
}

// stops fails where ErrText is not the fault of some texts, each at its mark.
func stops(t *testing.T, l ...string) {
	t.Helper()
	for _, marked := range l {
		s, place := cut(marked)
		fails(t, s, place, api.ErrText)
	}
}

// alike fails where some texts have not the same expression, their places aside.
func alike(t *testing.T, l ...string) {
	t.Helper()
	first, _, e := parse.Parse(l[0])
	if e != api.OK {
		t.Errorf("Parse(%q): %d", l[0], e)
	}
	for _, s := range l[1:] {
		x, at, e := parse.Parse(s)
		if told(placeless(x)) != told(placeless(first)) || at != 0 || e != api.OK {
			t.Errorf("Parse(%q) = %s, %d, %d, and of %q %s", s, told(x), at, e, l[0], told(first))
		}
	}
}

func placeless(x api.Expr) api.Expr {
	x.At = 0
	x.Kids = slices.Clone(x.Kids)
	for i := range x.Kids {
		x.Kids[i] = placeless(x.Kids[i])
	}
	return x
}

func TestP9_1_Examples(t *testing.T) {
	gives(t, "a.b or c d", "call@9 [sel@1 b [name@0 a; name@7 c]; name@9 d]")
	gives(t, "1 - 2 - 3", "op@6 - [op@2 - [num@0 1; num@4 2]; num@8 3]")
}

func TestP9_1_Things(t *testing.T) {
	gives(t, "0", "num@0 0")
	gives(t, " 007 ", "num@1 7")
	gives(t, "9223372036854775807", "num@0 9223372036854775807")
	gives(t, "x", "name@0 x")
	gives(t, "#c\nx'-1#d", "name@3 x'-1")
	gives(t, "(x)", "name@1 x")
	gives(t, "((( 1 )))", "num@4 1")
	gives(t, "[]", "list@0")
	gives(t, "[ 1 x [ ] (y) { } rec { } \"s\" ]", `list@0 [num@2 1; name@4 x; list@6; name@11 y; set@14; rec@18; str@26"s"]`)
	gives(t, "[ a.b c.d or e.f ]", "list@0 [sel@3 b [name@2 a]; sel@14 f [sel@7 d [name@6 c; name@13 e]]]")
	gives(t, "[ (f x) (1 + 2) ]", "list@0 [call@5 [name@3 f; name@5 x]; op@11 + [num@9 1; num@13 2]]")
	gives(t, "{}", "set@0")
	gives(t, " { } ", "set@1")
	gives(t, "rec {}", "rec@0")
	gives(t, "(rec { a = 1; })", "rec@1 {a} [num@11 1]")
}

func TestP9_1_Strings(t *testing.T) {
	gives(t, `""`, `str@0""`)
	gives(t, ` "a b"`, `str@1"a b"`)
	gives(t, `"\n\t\"\\\$"`, `str@0"\n\t\"\\$"`)
	gives(t, `"a${b}c"`, `str@0 [str@1"a"; name@4 b; str@6"c"]`)
	gives(t, `"${b}"`, `str@0 [name@3 b]`)
	gives(t, `"${b}${c}"`, `str@0 [name@3 b; name@7 c]`)
	gives(t, `"${ 1 + 2 }"`, `str@0 [op@6 + [num@4 1; num@8 2]]`)
	gives(t, `"${x: x}"`, `str@0 [fn@3 x [name@6 x]]`)
	gives(t, `"${{ a }: a}"`, `str@0 [pat@3 {a} [-; name@10 a]]`)
	gives(t, `"${{ a = 1; }.a}"`, `str@0 [sel@13 a [set@3 {a} [num@9 1]]]`)
	// One text alone is that text, however it is put in.
	gives(t, `"${"a"}"`, `str@0"a"`)
	gives(t, `"${""}"`, `str@0""`)
	gives(t, `"${"${"a"}"}"`, `str@0"a"`)
	gives(t, `"${("a")}"`, `str@0"a"`)
	gives(t, `"${"a${b}"}"`, `str@0 [str@3 [str@4"a"; name@7 b]]`)
	gives(t, `"${"${b}"}"`, `str@0 [str@3 [name@6 b]]`)
	gives(t, `"a${"b"}"`, `str@0 [str@1"a"; str@4"b"]`)
	gives(t, `"${"a"}b"`, `str@0 [str@3"a"; str@7"b"]`)
	gives(t, `"${"a"}${"b"}"`, `str@0 [str@3"a"; str@9"b"]`)
	gives(t, `"${"a"}${""}"`, `str@0 [str@3"a"; str@9""]`)
	gives(t, `"${1}"`, `str@0 [num@3 1]`)
	gives(t, `"${[]}"`, `str@0 [list@3]`)
	gives(t, `"${!"a"}"`, `str@0 [not@3 [str@4"a"]]`)
	gives(t, `"a" "b"`, `call@4 [str@0"a"; str@4"b"]`)
	gives(t, `"a".b`, `sel@3 b [str@0"a"]`)
	stops(t, `"${@}"`, `"${1 2@;}"`, `"${(@}"`, `"${[@}"`, `"${x.@}"`, `"${x: @}"`, `"${let @}"`, `"${1 + @}"`, `"a${b}${@}"`, `"${{ a = "x${@}y"; }}"`, `"a" @else`)
}

func TestP9_1_Sets(t *testing.T) {
	gives(t, "{ a = 1; }", "set@0 {a} [num@6 1]")
	gives(t, "{ b = 1; a = x: x; }", "set@0 {b a} [num@6 1; fn@13 x [name@16 x]]")
	gives(t, "{ a = { a = { a = a; }; }; }", "set@0 {a} [set@6 {a} [set@12 {a} [name@18 a]]]")
	gives(t, "rec { a = b; b = 1; }", "rec@0 {a b} [name@10 b; num@17 1]")
	gives(t, "{ inherit a; }", "set@0 {a*} [name@10 a]")
	gives(t, "{ inherit a b; c = 1; inherit d; }", "set@0 {a* b* c d*} [name@10 a; name@12 b; num@19 1; name@30 d]")
	gives(t, "{ inherit; }", "set@0")
	gives(t, "{ inherit; inherit (x); }", "set@0")
	gives(t, "{ inherit (e) a; }", "set@0 {a} [sel@14 a [name@11 e]]")
	gives(t, "{ inherit ( f  x ) a b; }", "set@0 {a b} [sel@19 a [call@15 [name@12 f; name@15 x]]; sel@21 b [call@15 [name@12 f; name@15 x]]]")
	gives(t, "rec { inherit (x: x) a; inherit b; }", "rec@0 {a b*} [sel@21 a [fn@15 x [name@18 x]]; name@32 b]")
	gives(t, "{ inherit ({ a }: [ a \"x${y}\" ]) b c; }", `set@0 {b c} [sel@33 b [pat@11 {a} [-; list@18 [name@20 a; str@22 [str@23"x"; name@26 y]]]]; sel@35 c [pat@11 {a} [-; list@18 [name@20 a; str@22 [str@23"x"; name@26 y]]]]]`)
	stops(t, "{@", "{ a@", "{ a @}", "{ a @b = 1; }", "{ a = @", "{ a = @; }", "{ a = 1@", "{ a = 1 @}", "{ a = 1@, b = 2; }", "{ a = 1; @; }", "{ a@.b = 1; }", "{ @1 = 1; }", `{ @"a" = 1; }`, "{ @in = 1; }", "{ @or = 1; }", "{ a@: 1; }",
		"{ inherit@", "{ inherit a@", "{ inherit a@, b; }", "{ inherit a @= 1; }", "{ inherit (@) a; }", "{ inherit (a@; }", "{ inherit a @(b); }", "{ inherit (a) @}", "{ inherit (a) @(b); }", "{ inherit @1; }", "{ inherit @[ ]; }", "{ inherit (a b@", `{ inherit @"a"; }`, "{ @(a) }",
		"rec@", "rec @x", "rec @(a)", "rec @rec { }", "rec @[ ]", "rec { @rec { } }", "{ }@}", "{ a = 1; @) }", "{ a = 1; @in }")
}

func TestP9_1_Let(t *testing.T) {
	gives(t, "let in 1", "let@0 [num@7 1]")
	gives(t, " let x = 1; inherit y; inherit (z) w; in x y", "let@1 {x y* w} [num@9 1; name@20 y; sel@35 w [name@32 z]; call@43 [name@41 x; name@43 y]]")
	gives(t, "let a = 1; in let a = 2; in a", "let@0 {a} [num@8 1; let@14 {a} [num@22 2; name@28 a]]")
	gives(t, "let in x: y", "let@0 [fn@7 x [name@10 y]]")
	gives(t, "let in { x }: y", "let@0 [pat@7 {x} [-; name@14 y]]")
	stops(t, "let@", "let @1", "let x@", "let x @in", "let x = @in 1", "let x = 1 @in", "let in@", "let in @in", "let in 1 @;", "let @{ }", "let @; in 1", "let x = 1;@", "let x = 1; @}", "let inherit @in x", "1 + @let in 1", "f @let in 1", "! @let in 1", "[ @let in 1 ]", "x.@let")
}

func TestP9_1_Words(t *testing.T) {
	gives(t, "if a then b else c", "if@0 [name@3 a; name@10 b; name@17 c]")
	gives(t, "if a: b then c: d else e: f", "if@0 [fn@3 a [name@6 b]; fn@13 c [name@16 d]; fn@23 e [name@26 f]]")
	gives(t, "if if a then b else c then d else if e then f else g h", "if@0 [if@3 [name@6 a; name@13 b; name@20 c]; name@27 d; if@34 [name@37 e; name@44 f; call@53 [name@51 g; name@53 h]]]")
	gives(t, "with a; b c", "with@0 [name@5 a; call@10 [name@8 b; name@10 c]]")
	gives(t, "with with a; b; c", "with@0 [with@5 [name@10 a; name@13 b]; name@16 c]")
	gives(t, "with { }; 1", "with@0 [set@5; num@10 1]")
	gives(t, "assert a == b; assert c; d", "assert@0 [op@9 == [name@7 a; name@12 b]; assert@15 [name@22 c; name@25 d]]")
	stops(t, "if@", "if @then", "if a@", "if a @else b", "if a then@", "if a then @else b", "if a then b@", "if a then b @then", "if a then b @;", "if a then b else@", "if a then b else @else", "if a then b else c @else d",
		"with@", "with @; a", "with a@", "with a @in b", "with a;@", "with a; @;", "with a; b@; c", "assert@", "assert @; a", "assert a@", "assert a @, b", "assert a;@", "assert a; b @;",
		"@then", "@else", "@in", "@inherit", "@or", "x @or y", "x @in", "x @if a then b else c", "x @with y; z", "x @assert y; z", "x @let in y", "x @inherit", "1 + @if a then b else c", "[ @with a; b ]", "- @assert a; b", "(with a; b) @)")
}

func TestP9_1_Functions(t *testing.T) {
	gives(t, "x: x", "fn@0 x [name@3 x]")
	gives(t, " x : y : x y", "fn@1 x [fn@5 y [call@11 [name@9 x; name@11 y]]]")
	gives(t, "x: if x then y: y else z", "fn@0 x [if@3 [name@6 x; fn@13 y [name@16 y]; name@23 z]]")
	gives(t, "(x: x) 1", "call@7 [fn@1 x [name@4 x]; num@7 1]")
	stops(t, "x:@", "x: @:", "x: @)", "x y@: z", "1@: x", "(x)@: x", "x.y@: z", "x: y z@: w", "1 + x@: y", "f x@: y", "! x@: y", "[ x@: y ]", "x: @in", "@: x")
}

func TestP9_1_Patterns(t *testing.T) {
	gives(t, "{ }: x", "pat@0 [name@5 x]")
	gives(t, "{ ... }: x", "pat@0 {...} [name@9 x]")
	gives(t, " { a }: x", "pat@1 {a} [-; name@8 x]")
	gives(t, "{ a, b, c }: x", "pat@0 {a b c} [-; -; -; name@13 x]")
	gives(t, "{ b ? 1, a, ... }: x", "pat@0 {b* a ...} [num@6 1; -; name@19 x]")
	gives(t, "{ a ? x: { b ? 2 }: b, c }: d", "pat@0 {a* c} [fn@6 x [pat@9 {b*} [num@15 2; name@20 b]]; -; name@28 d]")
	gives(t, "{ a ? { b = 1; } }: a", "pat@0 {a*} [set@6 {b} [num@12 1]; name@20 a]")
	gives(t, "{ a ? b c + 1 }: a", "pat@0 {a*} [op@10 + [call@8 [name@6 b; name@8 c]; num@12 1]; name@17 a]")
	gives(t, "{ a ? 0 }: a", "pat@0 {a*} [num@6 0; name@11 a]")
	gives(t, "{ a }: { b }: a b", "pat@0 {a} [-; pat@7 {b} [-; call@16 [name@14 a; name@16 b]]]")
	gives(t, "({ a }: a) { a = 1; }", "call@11 [pat@1 {a} [-; name@8 a]; set@11 {a} [num@17 1]]")
	stops(t, "{ a,@", "{ a, @}: a", "{ a, @, b }: a", "{ a @b, c }: a", "{ @, a }: a", "{ a ?@", "{ a ? @, b }: a", "{ a ? @}: a", "{ a ? 1@", "{ a ? 1 @; }: a", "{ a ? 1 @? 2 }: a", "{ a ? 1 }@", "{ a ? 1 } @a", "{ a, b }@", "{ a, b } @a", "{ a, b } @}", "{ a, @1 }: a", "{ a, @in }: a", `{ a, @"b" }: a`, "{ a, b @= 1; }",
		"{ ...@", "{ ... @, a }: a", "{ ... @... }: a", "{ ... @? 1 }: a", "{ ... @a }: a", "{ ... }@", "{ ... } @a", "{ ... }:@", "{ ... }: @:", "{ a, ... @, ... }: a", "{ a, ...@", "{ a @... }: a", "{ a }:@", "{ a }: @}", "{ }:@", "{ }: @;", "{ a ? b: (c)@: d }: a", "{ a @: 1 }", "{ ... }: (a) @: b")
}

// TestP9_1_PatternsAndSets: which { begins what.
func TestP9_1_PatternsAndSets(t *testing.T) {
	gives(t, "{ } x", "call@4 [set@0; name@4 x]")
	gives(t, "{ }.a", "sel@3 a [set@0]")
	gives(t, "{ } // { }", "op@4 // [set@0; set@7]")
	gives(t, "f { }", "call@2 [name@0 f; set@2]")
	gives(t, "[ { } { a = 1; } ]", "list@0 [set@2; set@6 {a} [num@12 1]]")
	gives(t, "{ a = { b }: b; }", "set@0 {a} [pat@6 {b} [-; name@13 b]]")
	gives(t, "if { }: 1 then { a }: 2 else { ... }: 3", "if@0 [pat@3 [num@8 1]; pat@15 {a} [-; num@22 2]; pat@29 {...} [num@38 3]]")
	gives(t, "with { a ? 1 }: a; { a, b }: b", "with@0 [pat@5 {a*} [num@11 1; name@16 a]; pat@19 {a b} [-; -; name@29 b]]")
	gives(t, "{ inherit ({ }: 1) a; }", "set@0 {a} [sel@19 a [pat@11 [num@16 1]]]")
	// Where a thing begins, but no expr, it is a set.
	stops(t, "f { a @}: a", "f { }@: a", "f { @... }: a", "f { a@, b }: a", "f { a @? 1 }: a", "[ { a @}: a ]", "[ { }@: a ]", "[ { @... }: a ]", "[ { a@, b }: a ]", "[ { a @? 1 }: a ]", "1 + { a @}: a", "1 + { }@: a", "! { a @}: a", "- { }@: a", "! { @... }: a", "x.y or { a @}: a", "x.y or { }@: a", "rec { a @}: a", "rec { }@: a", "rec { @... }: a", "rec { a@, b }: a", "f x { a @}: a",
		"[ 1 { }@: a ]", "{ } { }@: a", "({ } { a @}: a)")
	// What is neither is a set, and is at fault where that is.
	stops(t, "{ a @}", "{ a @} b", "{ a @} }: a", "{ a @a }: a", "{ a @: a }", "{ a @; }", "{ a @... }: a", "{ a @( }", "{ @: }", "{ @; }: a", "{ @{ }: a }", "{ @1 }: a", `{ @"a" }: a`, "{ @in }: a", "{ } @}: a", "{ a @.b }: a", "{ a @}. b")
}

func TestP9_1_Sel(t *testing.T) {
	gives(t, "a.b", "sel@1 b [name@0 a]")
	gives(t, "a . b . c", "sel@6 c [sel@2 b [name@0 a]]")
	gives(t, "a.b or c.d or e", "sel@8 d [sel@1 b [name@0 a; name@7 c]; name@14 e]")
	gives(t, "a.b or (c d)", "sel@1 b [name@0 a; call@10 [name@8 c; name@10 d]]")
	gives(t, "a.b or { c = 1; } d", "call@18 [sel@1 b [name@0 a; set@7 {c} [num@13 1]]; name@18 d]")
	gives(t, "f a.b c", "call@6 [call@2 [name@0 f; sel@3 b [name@2 a]]; name@6 c]")
	gives(t, "(f a).b", "sel@5 b [call@3 [name@1 f; name@3 a]]")
	gives(t, "1.a", "sel@1 a [num@0 1]")
	gives(t, "[ ].a", "sel@3 a [list@0]")
	gives(t, "rec { }.a or [ ]", "sel@7 a [rec@0; list@13]")
	gives(t, "-a.b", "neg@0 [sel@2 b [name@1 a]]")
	stops(t, "a.@", "a.@1", `a.@"b"`, "a.@(b)", "a.@or b", "a.@in", "a.@.b", "a.b or@", "a.b or @- c", "a.b or @! c", "a.b or @)", "a.b or c @or d", "@.a", "a.b or @or", "a.b or @in", "a@...", "a.b.@[ ]")
}

func TestP9_1_Call(t *testing.T) {
	gives(t, "f x", "call@2 [name@0 f; name@2 x]")
	gives(t, "f x y", "call@4 [call@2 [name@0 f; name@2 x]; name@4 y]")
	gives(t, "f (g x)", "call@2 [name@0 f; call@5 [name@3 g; name@5 x]]")
	gives(t, "f 1 [ ] { } rec { } \"s\" x.y (z)", `call@28 [call@24 [call@20 [call@12 [call@8 [call@4 [call@2 [name@0 f; num@2 1]; list@4]; set@8]; rec@12]; str@20"s"]; sel@25 y [name@24 x]]; name@29 z]`)
	gives(t, "1 2", "call@2 [num@0 1; num@2 2]")
	gives(t, "f x + g y", "op@4 + [call@2 [name@0 f; name@2 x]; call@8 [name@6 g; name@8 y]]")
	gives(t, "f - x", "op@2 - [name@0 f; name@4 x]")
	gives(t, "f -1", "op@2 - [name@0 f; num@3 1]")
	gives(t, "f(x)", "call@1 [name@0 f; name@2 x]")
	stops(t, "f @! x", "f @)", "f @]", "f @then", "f @=", "f@, x", "f x @?")
}

// strengths is the signs, those of one strength in one row, the weakest first; those of // and ++ go together from the right.
var strengths = [][]string{{"||"}, {"&&"}, {"==", "!="}, {"<"}, {"//"}, {"+", "-"}, {"*"}, {"++"}}

func TestP9_1_Signs(t *testing.T) {
	for i, row := range strengths {
		for _, a := range row {
			n := len(a)
			gives(t, "x "+a+" y", fmt.Sprintf("op@2 %s [name@0 x; name@%d y]", a, n+3))
			for _, b := range row {
				if a == "//" || a == "++" {
					alike(t, fmt.Sprintf("x %s (y %s z)", a, b), fmt.Sprintf("x %s y %s z", a, b))
				} else {
					alike(t, fmt.Sprintf("(x %s y) %s z", a, b), fmt.Sprintf("x %s y %s z", a, b))
				}
			}
			for _, weaker := range strengths[:i] {
				for _, b := range weaker {
					alike(t, fmt.Sprintf("(x %s y) %s z", a, b), fmt.Sprintf("x %s y %s z", a, b))
					alike(t, fmt.Sprintf("x %s (y %s z)", b, a), fmt.Sprintf("x %s y %s z", b, a))
					alike(t, fmt.Sprintf("(x %s (y %s z)) %s w", b, a, b), fmt.Sprintf("(x %s y %s z) %s w", b, a, b))
				}
			}
			alike(t, fmt.Sprintf("(-x) %s (!y)", a), fmt.Sprintf("-x %s !y", a))
			alike(t, fmt.Sprintf("(!x) %s (- - y) %s (! - ! z)", a, a), fmt.Sprintf("! x %s - - y %s ! - ! z", a, a))
			alike(t, fmt.Sprintf("(f x) %s (g y)", a), fmt.Sprintf("f x %s g y", a))
			alike(t, fmt.Sprintf("(x.y) %s (z.w)", a), fmt.Sprintf("x.y %s z.w", a))
			alike(t, fmt.Sprintf("x: (x %s y)", a), fmt.Sprintf("x: x %s y", a))
			alike(t, fmt.Sprintf("if x then y else (z %s w)", a), fmt.Sprintf("if x then y else z %s w", a))
			stops(t, "x "+a+"@", "x "+a+" @)", "x "+a+" @* y", "x "+a+" @let in 1", "x "+a+" y @:")
		}
	}
	gives(t, "a || b && c == d < e // f + g * h ++ i", "op@2 || [name@0 a; op@7 && [name@5 b; op@12 == [name@10 c; op@17 < [name@15 d; op@21 // [name@19 e; op@26 + [name@24 f; op@30 * [name@28 g; op@34 ++ [name@32 h; name@37 i]]]]]]]]")
	gives(t, "a ++ b * c + d // e < f == g && h || i", "op@34 || [op@29 && [op@24 == [op@20 < [op@15 // [op@11 + [op@7 * [op@2 ++ [name@0 a; name@5 b]; name@9 c]; name@13 d]; name@18 e]; name@22 f]; name@27 g]; name@32 h]; name@37 i]")
	gives(t, "1 // 2 // 3 // 4", "op@2 // [num@0 1; op@7 // [num@5 2; op@12 // [num@10 3; num@15 4]]]")
	gives(t, "1 ++ 2 ++ 3", "op@2 ++ [num@0 1; op@7 ++ [num@5 2; num@10 3]]")
	gives(t, "1 + 2 - 3 + 4", "op@10 + [op@6 - [op@2 + [num@0 1; num@4 2]; num@8 3]; num@12 4]")
	gives(t, "1 == 2 != 3", "op@7 != [op@2 == [num@0 1; num@5 2]; num@10 3]")
	gives(t, "a < b < c", "op@6 < [op@2 < [name@0 a; name@4 b]; name@8 c]")
	stops(t, "a @= b", "a @! b", "a @? b", "a b@: c", "a < @= b", "@< b", "@+ b", "@++ b", "@// b", "@* b", "@== b", "@!= b", "@&& b", "@|| b", "a + @+", "a + @* b", "a @... b")
}

func TestP9_1_NotAndNeg(t *testing.T) {
	gives(t, "!x", "not@0 [name@1 x]")
	gives(t, "-1", "neg@0 [num@1 1]")
	gives(t, "- -1", "neg@0 [neg@2 [num@3 1]]")
	gives(t, "!!-!x", "not@0 [not@1 [neg@2 [not@3 [name@4 x]]]]")
	gives(t, "-f x", "neg@0 [call@3 [name@1 f; name@3 x]]")
	gives(t, "1 - - 2", "op@2 - [num@0 1; neg@4 [num@6 2]]")
	gives(t, "1 - -2 - 3", "op@7 - [op@2 - [num@0 1; neg@4 [num@5 2]]; num@9 3]")
	gives(t, "-9223372036854775807", "neg@0 [num@1 9223372036854775807]")
	fails(t, "-9223372036854775808", 1, api.ErrRange)
	stops(t, "!@", "-@", "! @)", "- @+ 1", "!-@", "f (!@)", "[ @- 1 ]", "[ @! a ]", "[ 1 @- 1 ]", "a.b or @-1", "! @let in 1", "- x@: x", "! @if a then b else c")
}

func TestP9_1_TheEnd(t *testing.T) {
	stops(t, "@", "  @", "# x\n@", "1 @)", "1 @]", "1 @}", "1 @;", "1 @,", "1 @:", "1 @=", "(1@", "(1 @]", "[1@", "[1 @)", "[@", "[ @}", "(@", "(@)", "((1)@", "@)", "@]", "@}", "@;", "@,", "@?", "@=", "@...", "@*", "@<", "@==", "(1) @)", "[@;", "[ 1 @+ 2 ]", "[ 1@, 2 ]", "[ @in ]", "[ a @or b ]")
}

func TestP9_1_LexFirst(t *testing.T) {
	for s, want := range map[string][2]int{"1x": {1, 4}, ") %": {2, 4}, "{ a = 1; a = 2; } \"": {19, 4}, "let in in 9223372036854775808": {10, 13}, "\"\\q\"": {2, 4}, strings.Repeat("(", api.MaxNest) + "&": {api.MaxNest, 4}, strings.Repeat("(", api.MaxSource+1): {0, 2}, strings.Repeat(" ", api.MaxSource) + "1x": {0, 2}} {
		fails(t, s, want[0], api.Errno(want[1]))
		if l, at, e := lex.Tokens(s); len(l) != 0 || at != want[0] || e != api.Errno(want[1]) {
			t.Errorf("Tokens(%.50q) = %d, %d", s, at, e)
		}
	}
	gives(t, strings.Repeat(" ", api.MaxSource-1)+"x", fmt.Sprintf("name@%d x", api.MaxSource-1))
	fails(t, strings.Repeat(" ", api.MaxSource), api.MaxSource, api.ErrText)
}

func TestP9_1_Twice(t *testing.T) {
	for _, marked := range []string{
		"{ a = 1; @a = 2; }", "{ a = 1; b = 2; @a = 3; }", "rec { a = 1; @a", "let a = 1; @a = 2; in a", "{ inherit a @a; }", "{ inherit a b @a; }", "{ inherit a; @a = 1; }", "{ a = 1; inherit @a; }", "{ a = 1; inherit b @a; }",
		"{ a = 1; inherit (b) @a; }", "{ inherit (b) a @a; }", "{ inherit (b) a; inherit (c) @a; }", "{ inherit (b) a; inherit @a; }", "{ inherit (b) a; @a = 1; }", "let inherit a; inherit @a; in 1", "let inherit a; inherit b @a",
		"{ a, @a }: 1", "{ a, b, @a }: 1", "{ a ? 1, @a }: 1", "{ a, @a ? 1 }: 1", "{ a ? 1, @a ? 2, ... }: 1", "{ a, @a", "{ a, b, c, d, @b",
		// It is the first fault, whatever stands behind it.
		"{ a = 1; @a }", "{ a = 1; @a )", "let a = 1; @a in", "{ a, @a )", "{ a = 1; inherit @a )", "{ a = 1; inherit (b) @a +", "{ a = 1; @a = 1; a = 2; ) }", "[ { a = 1; @a } { b = 1; b = 2; } ]", "{ a = 1; @a = { b = 1; b = 2; }; }",
		"{ x = { a = 1; b = 1; @a = 1; }; x = 1; }", "f { a = 1; @a = 2; } )", "{ a = { b = 1; }; b = 1; @a",
	} {
		s, place := cut(marked)
		fails(t, s, place, api.ErrExists)
	}
	stops(t, "{ a = @); a = 1; }", "{ a = 1 a @= 2; }", "{ a, b @b }: 1", "{ a = 1; inherit @, a; }")
	// The same name may stand in others, and what is seen doesn't matter.
	for _, s := range []string{
		"{ a = { a = 1; }; b = { a = 1; }; }", "let a = 1; in { a = a; }", "{ a }: { a }: a", "a: a: a", "{ a ? { a }: a }: a", "rec { a = a; b = { inherit a; }; }", "let a = let a = 1; in a; in a", "{ inherit (a) b; c = a; a = b; }", "{ a = 1; A = 2; a' = 3; a- = 4; }", "{ inherit (a) a; }",
		"{ a ? a, b ? a }: a", "{ a = inherit_; inherit_ = 1; }",
	} {
		if _, at, e := parse.Parse(s); e != api.OK || at != 0 {
			t.Errorf("Parse(%s): %d, %d", s, at, e)
		}
	}
}

// openers is ways to open what is to come, each with how many more are open behind it, and what closes it.
var openers = []struct {
	open, close string
	more        int
}{
	{"(", ")", 2}, {"x:", "", 1}, {"{...}:", "", 1}, {"{a}:", "", 1}, {"{}:", "", 1}, {"{a ? ", "}:1", 1}, {"{a ? 1, b ? ", ", c}:1", 1}, {"{ a = ", ";}", 2}, {"{ a = 1; b = ", "; c = 2; }", 2}, {"rec { a = ", ";}", 2}, {"{ inherit (", ") a;}", 2}, {"let a = ", "; in 1", 1}, {"let in ", "", 1}, {"let inherit (", "); in 1", 1},
	{"if ", " then 1 else 1", 1}, {"if 1 then ", " else 1", 1}, {"if 1 then 1 else ", "", 1}, {"with ", "; 1", 1}, {"with 1; ", "", 1}, {"assert ", "; 1", 1}, {"assert 1; ", "", 1}, {`"${`, `}"`, 2}, {`"a${1}b${`, `}c"`, 2}, {"f (", ")", 2}, {"f 1 (", ") 2", 2}, {"x.y or (", ")", 2}, {"[ 1 (", ") 2 ]", 3}, {"1 + (", ")", 3}, {"1 * 2 + (", ") * 3", 3}, {"1 + 2 * (", ")", 4}, {"1 ++ 2 ++ 3 ++ (", ")", 5}, {"1 + 2 + 3 + (", ")", 3}, {"!(", ")", 3}, {"- ! (", ")", 4}, {"1 == - f { } (", ").a", 4}, {"(", ") + 1", 2}, {"(", ").a or 1 2", 2},
}

func TestP9_1_Deep(t *testing.T) {
	// The expression itself is open, and a number in it.
	for _, o := range openers {
		for _, rest := range []int{0, 1, 2, 3, 4} {
			n := (api.MaxNest - 2) / o.more
			if left := (api.MaxNest - 2) % o.more; rest > left {
				continue
			}
			text := func(behind int) string {
				return strings.Repeat("x:", rest) + strings.Repeat(o.open, n) + strings.Repeat("-", behind) + "1" + strings.Repeat(o.close, n)
			}
			left := (api.MaxNest-2)%o.more - rest
			if _, at, e := parse.Parse(text(left)); e != api.OK || at != 0 {
				t.Errorf("%q, %d and %d: %d, %d", o.open, n, left, at, e)
			}
			fails(t, text(left+1), 2*rest+n*len(o.open)+left+1, api.ErrDeep)
			fails(t, text(left+2), 2*rest+n*len(o.open)+left+2, api.ErrDeep)
		}
	}
}

// TestP9_1_DeepFirst: where something has to begin that is too deep, it doesn't matter what stands there.
func TestP9_1_DeepFirst(t *testing.T) {
	tokens := []string{"", "1", "x", "x: x", `"s"`, "(", ")", "[", "]", "{", "}", "{ }: 1", ";", ":", ",", "?", "=", ".", "...", "+", "*", "&&", "let in 1", "in", "if a then b else c", "then", "or", "rec { }", "rec", "inherit", `"${1}"`}
	for _, token := range tokens {
		for _, c := range []struct {
			ahead string // opens so many
			open  int
		}{
			{"(", 2}, {"x:", 1}, {"[ (", 3}, {"let in ", 1}, {"let a = ", 1}, {"if ", 1}, {"with ", 1}, {"assert ", 1}, {"{ a = ", 2}, {"rec { a = ", 2}, {"{ inherit (", 2}, {"{ a ? ", 1}, {"{ a, b }: ", 1}, {"{ }: ", 1}, {"! ", 1}, {"- ", 1}, {`"${`, 2}, {"let inherit (", 1}, {"f (", 2},
		} {
			s := strings.Repeat("x:", api.MaxNest-c.open) + c.ahead
			end := ""
			if strings.HasPrefix(c.ahead, `"`) {
				end = strings.Repeat("}", 2) + `"`
			}
			if _, _, e := lex.Tokens(s + token + end); e != api.OK {
				continue // the lexer's fault comes first
			}
			// An expr, or a pre, that would be one too many itself.
			fails(t, s+token+end, len(s), api.ErrDeep)
		}
		// A thing that would be one too many, as the expr ahead of it, or the pre, is not.
		s := strings.Repeat("x:", api.MaxNest-1)
		switch token {
		case "x: x":
			fails(t, s+token, len(s)+3, api.ErrDeep)
		case "{ }: 1":
			fails(t, s+token, len(s)+5, api.ErrDeep)
		case "let in 1":
			fails(t, s+token, len(s)+7, api.ErrDeep)
		case "if a then b else c":
			fails(t, s+token, len(s)+3, api.ErrDeep)
		default:
			fails(t, s+token, len(s), api.ErrDeep)
		}
		s = strings.Repeat("x:", api.MaxNest-2) + "! "
		fails(t, s+token, len(s), api.ErrDeep)
		// What stands behind or, and the right operand's thing.
		s = strings.Repeat("x:", api.MaxNest-2) + "1 + "
		fails(t, s+token, len(s), api.ErrDeep)
	}
	for _, c := range []string{"x.y or ", "1 x.y or "} {
		s := strings.Repeat("x:", api.MaxNest-2) + c
		if _, at, e := parse.Parse(s + "1"); e != api.OK {
			t.Errorf("%q: %d, %d", s, at, e)
		}
	}
	// A list may end, and a call, and what is at fault there is no thing that begins.
	s := strings.Repeat("x:", api.MaxNest-2) + "["
	gives(t, "[ ]", "list@0")
	if _, at, e := parse.Parse(s + "]"); e != api.OK {
		t.Errorf("an empty list at the limit: %d, %d", at, e)
	}
	fails(t, s+"1", len(s), api.ErrDeep)
	fails(t, s+"{", len(s), api.ErrDeep)
	fails(t, s, len(s), api.ErrText)
	fails(t, s+";", len(s), api.ErrText)
	s = strings.Repeat("x:", api.MaxNest-2) + "{"
	if _, at, e := parse.Parse(s + "}"); e != api.OK {
		t.Errorf("an empty set at the limit: %d, %d", at, e)
	}
	fails(t, s+"a=", len(s)+2, api.ErrDeep)
	fails(t, s+"a", len(s)+1, api.ErrText)
	fails(t, s+"inherit a a", len(s)+10, api.ErrExists)
	fails(t, s+"inherit (", len(s)+9, api.ErrDeep)
	s = strings.Repeat("x:", api.MaxNest-2)
	for _, good := range []string{"1", "x", `"s"`, "[]", "{}", "rec{}", "f x y", "a.b.c or d", "{inherit a b;}", "1 2 3"} {
		if _, at, e := parse.Parse(s + good); e != api.OK {
			t.Errorf("%s at the limit: %d, %d", good, at, e)
		}
		fails(t, s+"x:"+good, len(s)+2, api.ErrDeep)
	}
	fails(t, s+"1 )", len(s)+2, api.ErrText)
	fails(t, s+"1 + 1", len(s)+4, api.ErrDeep)
	// What has been closed doesn't count any more.
	gives(t, strings.Repeat("(", 29)+"1"+strings.Repeat(")", 29), "num@29 1")
	many := strings.Repeat("(1)", 500) + strings.Repeat("{a=(1);}", 100) + strings.Repeat("(-!1)", 100) + strings.Repeat("(1+1+1)", 100) + strings.Repeat(" + (1)", 100) + strings.Repeat(".a or (1)", 50)
	if _, at, e := parse.Parse(many); e != api.OK {
		t.Errorf("many behind one another: %d, %d", at, e)
	}
	// Faults ahead of it come first.
	fails(t, "{ a = 1; a = "+strings.Repeat("(", 100), 9, api.ErrExists)
	fails(t, ") "+strings.Repeat("(", 100), 0, api.ErrText)
	fails(t, strings.Repeat("(", 100)+" ; { a = 1; a = 2; }", 30, api.ErrDeep)
	fails(t, strings.Repeat("!", 100), 60, api.ErrDeep)
	fails(t, strings.Repeat("[", 100), 59, api.ErrDeep)
	fails(t, strings.Repeat("x:", 100), 120, api.ErrDeep)
	fails(t, strings.Repeat("1++", 100), 3*59, api.ErrDeep)
	fails(t, strings.Repeat(`"${`, 100), len(strings.Repeat(`"${`, 100)), api.ErrText)
}

func TestP1_Long(t *testing.T) {
	defer debug.SetMaxStack(debug.SetMaxStack(1 << 20))
	for _, s := range []string{"x ", "1+", "1 - ", "x.a.", "(1)", "{}", "[]", "a.b or c ", "x==", "1++", "!", "-", "(", "[", "{", "x:", "{a=", "{a?", "let ", "let a=1;in ", "if ", "with x;", `"`, `"${`, "inherit ", "rec", "{}:", "{...}:", "a,", "\"a\"", "}", ")", "]", "...", ".", "or "} {
		for _, end := range []string{"", "1", ")"} {
			for _, n := range []int{api.MaxSource / len(s), 61, 60, 59, 1000} {
				parse.Parse(strings.Repeat(s, min(n, api.MaxSource/len(s))) + end)
			}
		}
	}
	sum, _, e := parse.Parse(strings.Repeat("1+", api.MaxSource/2-1) + "1")
	depth := 0
	for sum.Kind == api.EOp {
		sum = sum.Kids[0]
		depth++
	}
	if e != api.OK || depth != api.MaxSource/2-1 {
		t.Errorf("a long sum: %d deep, %d", depth, e)
	}
	var many []string
	for i := range 1500 {
		many = append(many, strconv.FormatInt(int64(i+36*36*10), 36)[1:])
	}
	slices.Sort(many)
	many = slices.DeleteFunc(slices.Compact(many), func(s string) bool { return s[0] <= '9' || slices.Contains([]string{"in", "if", "or"}, s) })
	if x, at, e := parse.Parse("{inherit (e) " + strings.Join(many, " ") + ";}"); e != api.OK || len(x.Kids) != len(many) || len(many) < 500 {
		t.Errorf("%d names: %d, %d, %d", len(many), len(x.Kids), at, e)
	}
}

// TestP1_Copies: what stands in brackets behind inherit is there once for each name, in memory of its own; nested ones make many of it.
func TestP1_Copies(t *testing.T) {
	s := "x"
	for range 12 {
		s = "{inherit(" + s + ")a b;}"
	}
	x, _, e := parse.Parse(s)
	n := 0
	var count func(x api.Expr)
	count = func(x api.Expr) {
		n++
		for _, kid := range x.Kids {
			count(kid)
		}
	}
	count(x)
	if want := 4*1<<12 - 3; e != api.OK || n != want {
		t.Errorf("%d expressions, and not %d; %d", n, want, e)
	}
	apart(t, x)
}

// apart fails where two lists of an expression share memory.
func apart(t *testing.T, list ...api.Expr) {
	t.Helper()
	type span struct{ from, to uintptr }
	var l []span
	add := func(p unsafe.Pointer, n, size uintptr) {
		if n > 0 {
			l = append(l, span{uintptr(p), uintptr(p) + n*size})
		}
	}
	var walk func(x api.Expr)
	walk = func(x api.Expr) {
		add(unsafe.Pointer(unsafe.SliceData(x.Names)), uintptr(cap(x.Names)), unsafe.Sizeof(""))
		add(unsafe.Pointer(unsafe.SliceData(x.Has)), uintptr(cap(x.Has)), 1)
		add(unsafe.Pointer(unsafe.SliceData(x.Kids)), uintptr(cap(x.Kids)), unsafe.Sizeof(api.Expr{}))
		for _, kid := range x.Kids {
			walk(kid)
		}
	}
	for _, x := range list {
		walk(x)
	}
	slices.SortFunc(l, func(a, b span) int { return int(a.from) - int(b.from) })
	for i := 1; i < len(l); i++ {
		if l[i].from < l[i-1].to {
			t.Errorf("two of %d lists share memory", len(l))
			return
		}
	}
}

// everything is a text with something of everything.
const everything = `{ a ? 1, b, c ? { x = "p${b}q${"r"}"; }, ... }: let f = y: y; inherit a b; inherit ({ d ? 1 }: c [ d (e) ]) x z w; in
 if a == 1 && !b || f a < -2 then with rec { inherit (f { u = 1; inherit (g) h i; }) k m n; }; k ++ [ m n.o or {} ] else assert b; c.d or (1 + 2 * 3) // {}`

func TestP2_NewMemory(t *testing.T) {
	x, at, e := parse.Parse(everything)
	if e != api.OK {
		t.Fatalf("%d, %d", at, e)
	}
	was := told(x)
	y, _, _ := parse.Parse(everything)
	apart(t, x, y)
	var spoil func(x api.Expr)
	spoil = func(x api.Expr) {
		for _, kid := range x.Kids {
			spoil(kid)
		}
		clear(x.Names[:cap(x.Names)])
		clear(x.Has[:cap(x.Has)])
		clear(x.Kids[:cap(x.Kids)])
	}
	spoil(x)
	z, _, _ := parse.Parse(everything)
	if told(y) != was || told(z) != was {
		t.Error("answers share memory")
	}
}

// TestP2_Again asks at one time, and behind other calls.
func TestP2_Again(t *testing.T) {
	want, _, _ := parse.Parse(everything)
	var all sync.WaitGroup
	for i := range 8 {
		all.Go(func() {
			for range 50 {
				fails(t, everything+strings.Repeat(";", i+1), len(everything), api.ErrText)
				if x, at, e := parse.Parse(everything); told(x) != told(want) || at != 0 || e != api.OK {
					t.Errorf("Parse answers otherwise: %d, %d", at, e)
				}
			}
		})
	}
	all.Wait()
}
