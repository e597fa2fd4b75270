package eval_test

import (
	"strconv"
	"strings"
	"testing"

	"staddle/api"
	"staddle/eval"
	"staddle/parse"
)

// gives fails where a text's expression is not what is told, in as many steps, or not at a fuel of as many, or something at less.
func gives(t *testing.T, s, want string, steps int) {
	t.Helper()
	for _, fuel := range []int{api.MaxFuel, steps} {
		r, at, e := eval.Text(s, fuel)
		if r.Text != want || r.Steps != steps || at != 0 || e != api.OK {
			t.Errorf("Text(%.200q, %d) = %.200s, %d steps, %d, %d, and not %.200s, %d steps", s, fuel, r.Text, r.Steps, at, e, want, steps)
			return
		}
	}
	for fuel := range steps {
		fails(t, s, fuel, api.ErrFuel)
	}
}

// shows fails where a text's expression is not what is told, however many steps that takes.
func shows(t *testing.T, s, want string) {
	t.Helper()
	if r, at, e := eval.Text(s, api.MaxFuel); r.Text != want || at != 0 || e != api.OK {
		t.Errorf("Text(%.200q) = %.200s, %d, %d, and not %.200s", s, r.Text, at, e, want)
	}
}

// fails fails where a text's expression has not that fault at a fuel, or anything beside it.
func fails(t *testing.T, s string, fuel int, want api.Errno) {
	t.Helper()
	if r, at, e := eval.Text(s, fuel); r.Text != "" || r.Steps != 0 || len(r.Made) != 0 || at != 0 || e != want {
		t.Errorf("Text(%.200q, %d) = %.200s, %d steps, %d, %d, and not %d", s, fuel, r.Text, r.Steps, at, e, want)
	}
}

// stops fails where a text's expression has not that fault, behind just so many steps.
func stops(t *testing.T, s string, steps int, want api.Errno) {
	t.Helper()
	fails(t, s, api.MaxFuel, want)
	fails(t, s, steps, want)
	for fuel := range steps {
		fails(t, s, fuel, api.ErrFuel)
	}
}

func TestP11_1_Examples(t *testing.T) {
	gives(t, "1 + 2 * 3", "7", 6)
	fails(t, "let x = x; in x", 99, api.ErrLoop)
	if r, at, e := eval.Text("1 + 2 * 3", 99); r.Text != "7" || r.Steps != 6 || len(r.Made) != 0 || at != 0 || e != api.OK {
		t.Errorf("Text(1 + 2 * 3, 99) = %v, %d, %d", r, at, e)
	}
}

func TestP11_1_Fuel(t *testing.T) {
	x, _, _ := parse.Parse("1 + 1")
	for _, fuel := range []int{-1, -api.MaxFuel, api.MaxFuel + 1, -1 << 63, 1<<63 - 1} {
		for _, x := range []api.Expr{x, {}, {Kind: api.EName, Text: "none"}} {
			if r, e := eval.Run(x, fuel); r.Text != "" || r.Steps != 0 || r.Made != nil || e != api.ErrArg {
				t.Errorf("Run with %d: %v, %d", fuel, r, e)
			}
		}
		fails(t, "1 + 1", fuel, api.ErrArg)
		fails(t, "throw 1", fuel, api.ErrArg)
	}
	for fuel := range 4 {
		fails(t, "1 + 1", fuel, api.ErrFuel)
	}
	for _, fuel := range []int{4, 5, api.MaxFuel - 1, api.MaxFuel} {
		if r, e := eval.Run(x, fuel); r.Text != "2" || r.Steps != 4 || e != api.OK {
			t.Errorf("Run with %d: %v, %d", fuel, r, e)
		}
	}
}

// TestP11_1_ParseFirst: the parser's error and place go ahead of the fuel's, too.
func TestP11_1_ParseFirst(t *testing.T) {
	for s, want := range map[string]fault{
		"":                                       {0, api.ErrText},
		"1 + )":                                  {4, api.ErrText},
		"1x":                                     {1, api.ErrText},
		" let x":                                 {6, api.ErrText},
		"{a = 1; a = 2;}":                        {8, api.ErrExists},
		" 9223372036854775808":                   {1, api.ErrRange},
		strings.Repeat(" ", api.MaxSource) + "1": {0, api.ErrLong},
		strings.Repeat("!", api.MaxNest-1) + "true":   {59, api.ErrDeep},
		strings.Repeat("(", api.MaxNest/2) + "1 + 1)": {30, api.ErrDeep},
	} {
		for _, fuel := range []int{-1, 0, 99, api.MaxFuel + 1} {
			if r, at, e := eval.Text(s, fuel); r.Text != "" || r.Steps != 0 || r.Made != nil || at != want.at || e != want.e {
				t.Errorf("Text(%q, %d) = %v, %d, %d, and not %d, %d", s, fuel, r, at, e, want.at, want.e)
			}
		}
	}
}

// fault is an error and its place.
type fault struct {
	at int
	e  api.Errno
}

// TestP11_1_AtTheParsersLimits: a text of MaxSource bytes, and one in which MaxNest are open.
func TestP11_1_AtTheParsersLimits(t *testing.T) {
	gives(t, strings.Repeat(" ", api.MaxSource-1)+"1", "1", 2)
	gives(t, strings.Repeat("!", api.MaxNest-2)+"true", "true", 60)
	gives(t, strings.Repeat("(", api.MaxNest/2-1)+"1"+strings.Repeat(")", api.MaxNest/2-1), "1", 2)
}

func TestP11_1_Literals(t *testing.T) {
	gives(t, "0", "0", 2)
	gives(t, "007", "7", 2)
	gives(t, "9223372036854775807", "9223372036854775807", 2)
	gives(t, `""`, `""`, 2)
	gives(t, `"a b"`, `"a b"`, 2)
	gives(t, "true", "true", 2)
	gives(t, "false", "false", 2)
	gives(t, "null", "null", 2)
	gives(t, "(1)", "1", 2)
	gives(t, "x: x", "<fn>", 2)
	gives(t, "{a}: a", "<fn>", 2)
	gives(t, "map", "<fn>", 2)
	gives(t, "map 1", "<fn>", 3)
	gives(t, "[]", "[]", 2)
	gives(t, "{}", "{}", 2)
	gives(t, "rec {}", "{}", 2)
}

func TestP11_1_Shown(t *testing.T) {
	gives(t, "[1 2]", "[1 2]", 6)
	gives(t, "[[] {} (x: x) null true]", "[[] {} <fn> null true]", 12)
	gives(t, "{b = 2; a = 1;}", "{a = 1; b = 2;}", 6)
	gives(t, "{a = {b = [1];};}", "{a = {b = [1];};}", 8)
	gives(t, "{b = 1; a-b = 2; a' = 3; B = 4; _ = 5; ab = 6; a = 7;}", "{B = 4; _ = 5; a = 7; a' = 3; a-b = 2; ab = 6; b = 1;}", 16)
	gives(t, "-1", "-1", 3)
	gives(t, "[(-1)]", "[-1]", 5)
	gives(t, `"\\\"\n\t\$"`, `"\\\"\n\t\$"`, 2)
	gives(t, "\"$ $$ \n\t' / \r\x00\x7f\xff\xc3\xa9\"", "\"\\$ \\$\\$ \\n\\t' / \r\x00\x7f\xff\xc3\xa9\"", 2)
	gives(t, `"\${"`, `"\${"`, 2)
	// The parts are needed from the left, and by their names.
	stops(t, `[1 (throw "x") (1 + true)]`, 7, api.ErrThrow)
	stops(t, `{b = throw "x"; a = 1; c = 1 + true;}`, 7, api.ErrThrow)
	// A part is found once.
	gives(t, "let x = 1 + 1; in [x x]", "[2 2]", 10)
	// Blanks stand between parts alone, however many there are and whatever they are.
	gives(t, "[[] [1 [2]] {} {a = []; b = {c = [3 4];};}]", "[[] [1 [2]] {} {a = []; b = {c = [3 4];};}]", 26)
	gives(t, "{l = [{} {}]; s = {};}", "{l = [{} {}]; s = {};}", 10)
	gives(t, "let a = 1; b = a + 1; in [a b (a + b)]", "[1 2 3]", 15)
	gives(t, "({a, b ? a + 1, ...}: [a b]) {a = 1; c = 3;}", "[1 2]", 13)
}

// TestP11_1_EveryByte: each byte of a text stands for itself where it is shown, but five of them.
func TestP11_1_EveryByte(t *testing.T) {
	for b := range 256 {
		c := string([]byte{byte(b)})
		in, want := c, c
		switch c {
		case "\\", "\"":
			in, want = "\\"+c, "\\"+c
		case "\n":
			want = `\n`
		case "\t":
			want = `\t`
		case "$":
			want = `\$`
		}
		gives(t, `"`+in+`x`+in+`"`, `"`+want+`x`+want+`"`, 2)
		gives(t, `{a = "`+in+`";}`, `{a = "`+want+`";}`, 4)
	}
}

func TestP11_1_Strings(t *testing.T) {
	gives(t, `"a${"b"}c"`, `"abc"`, 5)
	gives(t, `"${1}"`, `"1"`, 3)
	gives(t, `"${-5}x"`, `"-5x"`, 5)
	gives(t, `"${"a"}${"b"}"`, `"ab"`, 4)
	gives(t, `"${""}"`, `""`, 2) // that is an EStr that has no Kids
	gives(t, `"${"${1}"}"`, `"1"`, 4)
	for _, s := range []string{"true", "null", "[]", "(x: x)", "map", "{}", `{outpath = "a";}`, "{outPath = true;}", "{outPath = null;}", "{outPath = [];}", "{outPath = {};}", "{outPath = x: x;}"} {
		fails(t, `"${`+s+`}"`, 99, api.ErrKind)
		fails(t, `"a${`+s+`}b"`, 99, api.ErrKind)
	}
	// Each, and its text, ahead of the next.
	stops(t, `"${true}${throw "x"}"`, 2, api.ErrKind)
	stops(t, `"${throw "x"}${true}"`, 4, api.ErrThrow)
	stops(t, `"${{outPath = throw "x";}}${true}"`, 6, api.ErrThrow)
}

func TestP11_1_TextsOfSets(t *testing.T) {
	gives(t, `"${{outPath = "p";}}"`, `"p"`, 5)
	gives(t, `"${{outPath = 5;}}"`, `"5"`, 5)
	gives(t, `"${{outPath = {outPath = "p";};}}"`, `"p"`, 7)
	gives(t, `"${{a = throw "x"; outPath = "p";}}"`, `"p"`, 5)
	gives(t, `let s = {outPath = "p";}; in "${s}${s}"`, `"pp"`, 9)
	gives(t, `{outPath = "p";} + {outPath = {outPath = "q";};}`, `"pq"`, 10)
	gives(t, `toString {outPath = "p";}`, `"p"`, 7)
	stops(t, `"${{}}"`, 3, api.ErrKind)
	stops(t, `"${{outPath = {};}}"`, 5, api.ErrKind)
	stops(t, `"${{outPath = true;}}"`, 4, api.ErrKind)
	// A step each: what never ends takes all fuel. It doesn't wait.
	for _, fuel := range []int{0, 1, 5, 6, 100, 1000, api.MaxFuel} {
		fails(t, `let s = {outPath = s;}; in "${s}"`, fuel, api.ErrFuel)
	}
	s := `let s0 = {outPath = "p";}; `
	for i := 1; i <= 300; i++ {
		s += "s" + digits(i) + "={outPath=s" + digits(i-1) + ";};"
	}
	gives(t, s+` in "${s300}"`, `"p"`, 4+301+600+1+1)
}

func TestP11_1_Names(t *testing.T) {
	gives(t, "let x = 1; in x", "1", 4)
	gives(t, "let x = 1; in x + x", "2", 6)
	gives(t, "let x = 1; y = x; in y", "1", 5)
	gives(t, "let x = 1; in let x = 2; in x", "2", 5)
	gives(t, "let x = 1; in (x: x) 2", "2", 6)
	gives(t, "let x = 1; in ({x}: x) {x = 2;}", "2", 7)
	gives(t, "let true = 1; in true", "1", 4)
	gives(t, "let map = 1; in map", "1", 4)
	gives(t, "(null: null) 1", "1", 5)
	gives(t, "let f = x: y: x; in f 1 2", "1", 9)
	stops(t, "x", 1, api.ErrName)
	stops(t, "let x = 1; in y", 2, api.ErrName)
	stops(t, "{a = 1; b = a;}.b", 3, api.ErrName)
	fails(t, "(let x = 1; in x) + x", 99, api.ErrName)
	fails(t, "(x: x) x", 99, api.ErrName)
	for _, s := range []string{"True", "tostring", "import", "builtins", "outPath", "or'", "drv"} {
		fails(t, s, 99, api.ErrName)
	}
	stops(t, "let x = x; in x", 3, api.ErrLoop)
	stops(t, "let x = y; y = x; in x", 4, api.ErrLoop)
	stops(t, "let x = 1 + x; in x", 5, api.ErrLoop)
	stops(t, "rec {a = b; b = a;}.a", 4, api.ErrLoop)
	fails(t, "let s = {a = s.a;}; in s.a", 99, api.ErrLoop)
	fails(t, "let l = [(elemAt l 0)]; in elemAt l 0", 99, api.ErrLoop)
	fails(t, "let l = map (x: elemAt l 0) [1]; in l", 99, api.ErrLoop)
	fails(t, "let s = {a = s == s;}; in s", 99, api.ErrLoop)
	fails(t, "let s = with s; a; in s", 99, api.ErrLoop)
	fails(t, "let f = f 1; in f", 99, api.ErrLoop)
	// What names itself but doesn't need itself is no loop.
	gives(t, "let x = {a = 1; b = x.a;}; in x.b", "1", 8)
	gives(t, "let f = n: if n == 0 then 5 else f (n - 1); in f 1", "5", 22)
}

func TestP11_1_With(t *testing.T) {
	gives(t, "with {a = 1;}; a", "1", 5)
	gives(t, "with {a = 1;}; a + a", "2", 7)
	gives(t, "with 5; 1", "1", 3)
	gives(t, `with throw "x"; true`, "true", 3)
	gives(t, "with {true = 1;}; true", "true", 3)
	gives(t, "with {map = 1; toString = 2;}; [map toString]", "[<fn> <fn>]", 7)
	gives(t, "let a = 1; in with {a = 2;}; a", "1", 5)
	gives(t, "with {a = 1;}; let a = 2; in a", "2", 5)
	gives(t, "with {a = 1;}; with {b = 2;}; a", "1", 7)
	gives(t, "with {a = 1;}; with {a = 2;}; a", "2", 6)
	gives(t, "with {a = 1;}; let f = x: a; in with {a = 2;}; f 0", "1", 10)
	gives(t, "with {a = 1; b = a;}.b or 2; 3", "3", 3)
	gives(t, "with {a = {b = 1;};}; with a; b", "1", 8)
	gives(t, "with {a = 1;}; rec {b = a;}.b", "1", 7)
	stops(t, "with {a = 1;}; b", 3, api.ErrName)
	stops(t, "with 5; x", 3, api.ErrKind)
	stops(t, "with {a = 1;}; with 5; a", 4, api.ErrKind)
	stops(t, "with 5; with {a = 1;}; b", 5, api.ErrKind)
	stops(t, "with a; a", 3, api.ErrName)
	gives(t, "with 5; with {a = 1;}; a", "1", 6)
	stops(t, `with throw "x"; a`, 5, api.ErrThrow)
	// The set is found once.
	gives(t, "with {a = 1;} // {b = 2;}; a + b", "3", 10)
}

func TestP11_1_Sets(t *testing.T) {
	gives(t, "{a = 1;}.a", "1", 4)
	gives(t, "let a = 1; in {a = 2; b = a;}.b", "1", 6)
	gives(t, "rec {a = 1; b = a;}.b", "1", 5)
	gives(t, "rec {a = b; b = 1;}", "{a = 1; b = 1;}", 6)
	gives(t, `{a = throw "x"; b = 1;}.b`, "1", 4)
	gives(t, "{}.a or 7", "7", 4)
	gives(t, "{a = 1;}.a or 7", "1", 4)
	gives(t, `{a = 1;}.a or (throw "x")`, "1", 4)
	gives(t, "{a = {};}.a.b or 1", "1", 6)
	gives(t, "{a = {b = {c = 1;};};}.a.b.c", "1", 8)
	gives(t, "{a = 1;}.b or {a = 2;}.a or 3", "2", 6)
	// A part is found once, whoever needs it.
	gives(t, "let s = {a = 1 + 1;}; in [s.a s.a s]", "[2 2 {a = 2;}]", 16)
	stops(t, "{}.a", 2, api.ErrNone)
	stops(t, "{b = 1;}.a", 2, api.ErrNone)
	stops(t, "{}.a.b or 1", 3, api.ErrNone)
	stops(t, "{}.a or b", 3, api.ErrName)
	for _, s := range []string{"1", `"a"`, "true", "null", "[]", "(x: x)", "map"} {
		stops(t, "("+s+").a", 2, api.ErrKind)
		stops(t, "("+s+").a or 1", 2, api.ErrKind)
	}
}

func TestP11_1_Inherit(t *testing.T) {
	gives(t, "let x = 1; in {inherit x;}.x", "1", 6)
	gives(t, "let x = 1; in rec {inherit x; y = x;}.y", "1", 7)
	gives(t, "let x = 1; in let inherit x; in x", "1", 6)
	gives(t, "let x = 1; in let inherit x; y = x; in y", "1", 7)
	gives(t, "with {x = 1;}; let inherit x; in with {x = 2;}; x", "1", 8)
	gives(t, "rec {inherit (s) a; s = {a = 1;};}.a", "1", 7)
	gives(t, "let inherit (s) a; s = {a = 1;}; in a", "1", 7)
	gives(t, "{inherit ({a = 1; b = 2;}) b a;}", "{a = 1; b = 2;}", 10)
	gives(t, "{inherit (throw \"x\") a; b = 1;}.b", "1", 4)
	gives(t, "{inherit;}", "{}", 2)
	gives(t, "{inherit true;}.true", "true", 4)
	stops(t, "{inherit (s) a; s = {a = 1;};}.a", 4, api.ErrName)
	stops(t, "let inherit x; in x", 3, api.ErrName)
	stops(t, "rec {inherit x;}.x", 3, api.ErrName)
	stops(t, "{inherit ({}) a;}.a", 4, api.ErrNone)
	stops(t, "{inherit (1) a;}.a", 4, api.ErrKind)
	stops(t, "rec {inherit (a) a;}.a", 4, api.ErrLoop)
}

func TestP11_1_Calls(t *testing.T) {
	gives(t, "(x: x) 5", "5", 5)
	gives(t, `(x: 1) (throw "x")`, "1", 4)
	gives(t, "(x: x + x) (1 + 1)", "4", 9)
	gives(t, "(x: y: x) 1 2", "1", 7)
	gives(t, "(x: y: y) 1 2", "2", 7)
	gives(t, "(x: x: x) 1 2", "2", 7)
	gives(t, "(x: y: x) 1", "<fn>", 4)
	gives(t, "(f: f 1) (x: x)", "1", 8)
	gives(t, "{f = x: x;}.f 3", "3", 7)
	gives(t, "{}.f or (x: x) 3", "3", 7)
	// A name of a function means what it means where that stands, not where it is called.
	gives(t, "let a = 1; f = x: a; in let a = 2; in f 0", "1", 8)
	stops(t, `1 (throw "x")`, 2, api.ErrKind)
	stops(t, "x 1", 2, api.ErrName)
	for _, s := range []string{"1", `"a"`, "true", "null", "[map]", "{f = x: x;}"} {
		stops(t, "("+s+") 1", 2, api.ErrKind)
	}
	fails(t, "(x: x) 1 2", 99, api.ErrKind)
	fails(t, "length [] 1", 99, api.ErrKind)
	fails(t, "(x: x x) (x: x x)", api.MaxFuel, api.ErrDeep)
}

func TestP11_1_Patterns(t *testing.T) {
	gives(t, "({a}: a) {a = 1;}", "1", 6)
	gives(t, "({a, b ? a}: a + b) {a = 1;}", "2", 9)
	gives(t, "({a ? 1}: a) {a = 2;}", "2", 6)
	gives(t, "({a ? 1}: a) {}", "1", 6)
	gives(t, "({a ? b, b ? 2}: a) {}", "2", 7)
	gives(t, "({a ? b, b}: a) {b = 2;}", "2", 7)
	gives(t, "({a, ...}: a) {a = 1; b = 2;}", "1", 6)
	gives(t, "({}: 1) {}", "1", 5)
	gives(t, "({...}: 1) {}", "1", 5)
	gives(t, "({...}: 1) {a = 1;}", "1", 5)
	gives(t, `({a, b ? throw "x"}: 1) {a = throw "x";}`, "1", 5)
	gives(t, "let b = 1; in ({a ? b, b ? 2}: a) {}", "2", 8)
	gives(t, "let a = 5; in ({b ? a}: b) {}", "5", 8)
	gives(t, "let s = {a = 1 + 1;}; in ({a}: a) s + s.a", "4", 13)
	gives(t, "({a}: {b}: a + b) {a = 1;} {b = 2;}", "3", 12)
	stops(t, "({a}: 1) {}", 3, api.ErrNone)
	stops(t, "({a, b}: 1) {a = 1;}", 3, api.ErrNone)
	stops(t, "({a}: 1) {b = 1;}", 3, api.ErrNone)
	stops(t, "({a ? 1, b}: 1) {a = 1; c = 1;}", 3, api.ErrNone)
	stops(t, "({a, ...}: 1) {b = 1;}", 3, api.ErrNone)
	stops(t, "({a}: 1) {a = 1; b = 2;}", 3, api.ErrExists)
	stops(t, "({a ? 1}: 1) {b = 2;}", 3, api.ErrExists)
	stops(t, "({}: 1) {a = 1;}", 3, api.ErrExists) // } and : behind a { begin a pattern
	stops(t, "({a ? a}: a) {}", 5, api.ErrLoop)
	stops(t, "({a ? c}: a) {}", 5, api.ErrName)
	stops(t, `({a}: 1) (throw "x")`, 5, api.ErrThrow)
	for _, s := range []string{"1", `"a"`, "true", "null", "[]", "(x: x)"} {
		stops(t, "({...}: 1) ("+s+")", 3, api.ErrKind)
	}
}

func TestP11_1_Conditions(t *testing.T) {
	gives(t, `if true then 1 else throw "x"`, "1", 4)
	gives(t, `if false then throw "x" else 2`, "2", 4)
	gives(t, "if 1 == 1 then 1 else 2", "1", 7)
	gives(t, "assert true; 1", "1", 4)
	gives(t, "!true", "false", 3)
	gives(t, "!!true", "true", 4)
	gives(t, "-(1 + 1)", "-2", 5)
	gives(t, "-0", "0", 3)
	gives(t, "- -5", "5", 4)
	stops(t, "assert false; x", 2, api.ErrThrow)
	for _, s := range []string{"1", "0", `"a"`, `""`, "null", "[]", "{}", "(x: x)"} {
		stops(t, "if "+s+" then 1 else 2", 2, api.ErrKind)
		stops(t, "assert "+s+"; 1", 2, api.ErrKind)
		stops(t, "!"+s, 2, api.ErrKind)
		if s != "1" && s != "0" {
			stops(t, "-"+s, 2, api.ErrKind)
		}
	}
	stops(t, "-true", 2, api.ErrKind)
	stops(t, "-(-9223372036854775807 - 1)", 5, api.ErrRange)
	gives(t, "-(-9223372036854775807)", "9223372036854775807", 4)
}

func TestP11_1_AndOr(t *testing.T) {
	gives(t, `false && throw "x"`, "false", 3)
	gives(t, `true || throw "x"`, "true", 3)
	gives(t, "true && true", "true", 4)
	gives(t, "true && false", "false", 4)
	gives(t, "false || true", "true", 4)
	gives(t, "false || false", "false", 4)
	gives(t, "false && 1", "false", 3)
	gives(t, "true || 1", "true", 3)
	for _, s := range []string{"1", `"a"`, "null", "[]", "{}", "(x: x)"} {
		stops(t, s+` && throw "x"`, 2, api.ErrKind)
		stops(t, s+` || throw "x"`, 2, api.ErrKind)
		stops(t, "true && "+s, 3, api.ErrKind)
		stops(t, "false || "+s, 3, api.ErrKind)
	}
}

func TestP11_1_Numbers(t *testing.T) {
	for s, want := range map[string]string{
		"1 + 2":                   "3",
		"1 - 2":                   "-1",
		"2 * 3":                   "6",
		"0 * 0":                   "0",
		"9223372036854775806 + 1": "9223372036854775807",
		"9223372036854775807 - 0": "9223372036854775807",
		"3037000499 * 3037000499": "9223372030926249001",
		"4294967296 * 2147483647": "9223372032559808512",
		"9223372036854775807 * 1": "9223372036854775807",
		"1 < 2":                   "true",
		"2 < 1":                   "false",
		"1 < 1":                   "false",
		`"a" < "b"`:               "true",
		`"b" < "a"`:               "false",
		`"a" < "a"`:               "false",
		`"a" < "ab"`:              "true",
		`"B" < "a"`:               "true",
		`"" < "a"`:                "true",
		"\"\xff\" < \"\xc3\xa9\"": "false",
		"\"\x7f\" < \"\x80\"":     "true",
		`"10" < "9"`:              "true",
		`"a" + "b"`:               `"ab"`,
		`"" + ""`:                 `""`,
	} {
		gives(t, s, want, 4)
	}
	low := "(-9223372036854775807 - 1)"
	gives(t, low, "-9223372036854775808", 5)
	gives(t, low+" + 9223372036854775807", "-1", 7)
	gives(t, low+" * 1", "-9223372036854775808", 7)
	gives(t, "1 * "+low, "-9223372036854775808", 7)
	gives(t, low+" - "+low, "0", 10)
	gives(t, "-1 - "+low, "9223372036854775807", 8)
	gives(t, "4294967296 * (-2147483648)", "-9223372036854775808", 5)
	gives(t, low+" < 0", "true", 7)
	gives(t, "0 * "+low, "0", 7)
	for _, s := range []string{
		"9223372036854775807 + 1", "1 + 9223372036854775807", low + " - 1", low + " + (-1)", "(-1) + " + low, "-2 - 9223372036854775807", "0 - " + low, "9223372036854775807 - (-1)",
		low + " * (-1)", "(-1) * " + low, "4294967296 * 2147483648", "3037000500 * 3037000500", "9223372036854775807 * 2", "9223372036854775807 * 9223372036854775807", low + " * " + low, low + " * 2", "4294967296 * 4294967296",
	} {
		fails(t, s, 99, api.ErrRange)
	}
}

func TestP11_1_OpKinds(t *testing.T) {
	values := []string{"1", `"a"`, "true", "null", "[]", "{}", "(x: x)"}
	for i, a := range values {
		for j, b := range values {
			for _, sign := range []string{"-", "*"} {
				if i > 0 || j > 0 {
					stops(t, a+" "+sign+" "+b, 3, api.ErrKind)
				}
			}
			if i > 1 || j != i {
				stops(t, a+" < "+b, 3, api.ErrKind)
			}
			if i != 5 || j != 5 {
				stops(t, a+" // "+b, 3, api.ErrKind)
			}
			if i != 4 || j != 4 {
				stops(t, a+" ++ "+b, 3, api.ErrKind)
			}
			if i > 1 || j != i {
				steps := 3
				if i == 5 || i == 1 && j == 5 {
					steps = 4 // for the set's text
				}
				stops(t, a+" + "+b, steps, api.ErrKind)
			}
		}
	}
	// The left one, the right one, and only then of which kinds they are.
	for _, sign := range []string{"==", "!=", "//", "++", "<", "+", "-", "*"} {
		stops(t, "true "+sign+` throw "x"`, 5, api.ErrThrow)
		stops(t, `throw "x" `+sign+" x", 4, api.ErrThrow)
	}
	gives(t, `"a" + {outPath = "b";}`, `"ab"`, 6)
	gives(t, `{outPath = "a";} + "b"`, `"ab"`, 6)
	gives(t, `{outPath = 1;} + "b"`, `"1b"`, 6)
	stops(t, `{outPath = throw "x";} + 1`, 7, api.ErrThrow)
	stops(t, `1 + {outPath = throw "x";}`, 3, api.ErrKind)
	stops(t, `true + {outPath = throw "x";}`, 3, api.ErrKind)
	stops(t, `"a" < {outPath = "b";}`, 3, api.ErrKind)
}

func TestP11_1_SetsAndListsTogether(t *testing.T) {
	gives(t, "{a = 1; b = 2;} // {b = 3; c = 4;}", "{a = 1; b = 3; c = 4;}", 10)
	gives(t, "{} // {}", "{}", 4)
	gives(t, "{a = 1;} // {}", "{a = 1;}", 6)
	gives(t, "{} // {a = 1;}", "{a = 1;}", 6)
	gives(t, "{a = 1;} // {a = 2;} // {a = 3;}", "{a = 3;}", 8)
	gives(t, `({a = throw "x";} // {a = 1;}).a`, "1", 6)
	gives(t, `let a = {x = 1;}; b = a // {x = 2;}; in [a b]`, "[{x = 1;} {x = 2;}]", 15)
	gives(t, "[1] ++ [2 3]", "[1 2 3]", 10)
	gives(t, "[] ++ []", "[]", 4)
	gives(t, `length ([(throw "x")] ++ [(throw "y")])`, "2", 6)
	gives(t, "let l = [(1 + 1)]; in l ++ l", "[2 2]", 11)
}

func TestP11_1_Like(t *testing.T) {
	gives(t, "1 == 1", "true", 5)
	gives(t, "1 == 2", "false", 5)
	gives(t, "1 != 1", "false", 5)
	gives(t, "1 != 2", "true", 5)
	gives(t, `"a" == "a"`, "true", 5)
	gives(t, `"a" == "b"`, "false", 5)
	gives(t, "true == true", "true", 5)
	gives(t, "true == false", "false", 5)
	gives(t, "false == false", "true", 5)
	gives(t, "null == null", "true", 5)
	gives(t, "[] == []", "true", 5)
	gives(t, "{} == {}", "true", 5)
	gives(t, "[1 2] == [1 2]", "true", 11)
	gives(t, "[1 2] == [1 3]", "false", 11)
	gives(t, `[1 2] == [2 (throw "x")]`, "false", 8)
	gives(t, `[1] == [1 (throw "x")]`, "false", 5)
	gives(t, `[1 (throw "x")] == [1]`, "false", 5)
	gives(t, "{a = 1; b = 2;} == {b = 2; a = 1;}", "true", 11)
	gives(t, `{a = 1; b = throw "x";} == {b = throw "x"; a = 2;}`, "false", 8)
	gives(t, `{a = throw "x";} == {b = throw "x";}`, "false", 5)
	gives(t, `{a = throw "x";} == {a = throw "x"; b = 1;}`, "false", 5)
	gives(t, "{a = [1];} == {a = [1];}", "true", 11)
	gives(t, "[[] [1]] == [[] []]", "false", 11)
	gives(t, "1 == (1 == 1)", "false", 8)
	gives(t, "let l = [(1 + 1)]; in l == l", "true", 11)
	gives(t, `{outPath = "a";} == "a"`, "false", 5)
	values := []string{"1", `"1"`, "true", "null", "[]", "{}", "0", `""`, "false", "[1]", "{a = 1;}", "[[] []]"}
	for i, a := range values {
		for j, b := range values {
			if i != j {
				gives(t, a+" == "+b, "false", 5)
				gives(t, a+" != "+b, "true", 5)
			}
		}
		for _, f := range []string{"(x: x)", "({a}: a)", "map", "(map 1)"} {
			fails(t, a+" == "+f, 99, api.ErrKind)
			fails(t, f+" == "+a, 99, api.ErrKind)
			fails(t, f+" != "+a, 99, api.ErrKind)
		}
	}
	stops(t, "map == map", 4, api.ErrKind)
	stops(t, "let f = x: x; in f == f", 6, api.ErrKind)
	stops(t, "[map] == [map]", 7, api.ErrKind)
	stops(t, "[1 map] == [1 2]", 10, api.ErrKind)
	gives(t, "[1 map] == [2 map]", "false", 8)
	gives(t, "{a = map;} == {b = map;}", "false", 5)
	// The left one's part is needed ahead of the right one's.
	stops(t, `[(throw "x")] == [x]`, 7, api.ErrThrow)
	stops(t, `[x] == [(throw "x")]`, 5, api.ErrName)
}

func digits(n int) string { return strconv.Itoa(n) }
