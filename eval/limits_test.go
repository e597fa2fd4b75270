package eval_test

import (
	"strconv"
	"strings"
	"testing"

	"staddle/api"
	"staddle/eval"
)

// chain is an expression in which n + 3 evaluations wait for one another.
func chain(n int, last string) string {
	s := "let a0 = " + last + "; "
	for i := range n {
		s += "a" + strconv.Itoa(i+1) + " = a" + strconv.Itoa(i) + "; "
	}
	return s + "in a" + strconv.Itoa(n)
}

func TestP11_1_MaxCalls(t *testing.T) {
	// The let, n + 1 names, and what is last.
	gives(t, chain(api.MaxCalls-3, "1"), "1", api.MaxCalls+1)
	stops(t, chain(api.MaxCalls-2, "1"), api.MaxCalls+1, api.ErrDeep)
	gives(t, chain(api.MaxCalls-4, "!true"), "false", api.MaxCalls+1)
	stops(t, chain(api.MaxCalls-3, "!true"), api.MaxCalls+1, api.ErrDeep)
	gives(t, chain(api.MaxCalls-4, "[]")+" == []", "true", api.MaxCalls+3)
	// Where both limits are passed at once, it is the fuel's.
	fails(t, chain(api.MaxCalls-2, "1"), api.MaxCalls, api.ErrFuel)
	fails(t, chain(api.MaxCalls-2, "1"), api.MaxCalls+1, api.ErrDeep)
	// What is done waits no more.
	shows(t, "let f = n: if n == 0 then 0 else 1 + f (n - 1); in f 60 + f 60 + f 60 + f 60", "240")
	fails(t, "let f = n: if n == 0 then 0 else 1 + f (n - 1); in f 100", api.MaxFuel, api.ErrDeep)
	fails(t, "let f = x: f x; in f 0", api.MaxFuel, api.ErrDeep)
}

// TestP11_1_MaxCallsOfOthers: a like, a toString of a value and a showing wait, too: in a list that is its own part, each waits for the next, with a step each. Behind the first two of them all parts are found.
func TestP11_1_MaxCallsOfOthers(t *testing.T) {
	head := "let x = [x]; in "
	stops(t, head+"x", api.MaxCalls+5, api.ErrDeep)
	stops(t, head+"toString x", api.MaxCalls+5, api.ErrDeep)
	stops(t, head+"x == x", api.MaxCalls+5, api.ErrDeep)
	stops(t, "let x = {a = x;}; in x", api.MaxCalls+5, api.ErrDeep)
	stops(t, "let x = {a = x;}; in x == x", api.MaxCalls+5, api.ErrDeep)
	stops(t, "let x = map (n: x) [1]; in x", api.MaxCalls+10, api.ErrDeep)
}

// nested is lists in lists, n of them, whose parts are found already, and an expression of them.
func nested(n int, x string) string {
	s := "let a0=[];"
	var l []string
	for i := range n - 1 {
		s += "a" + strconv.Itoa(i+1) + "=[a" + strconv.Itoa(i) + "];"
		l = append(l, "(f a"+strconv.Itoa(i+1)+")")
	}
	return s + "f=l:isList(elemAt l 0);x=a" + strconv.Itoa(n-1) + ";in if toString[" + strings.Join(l, "") + `]=="" then 0 else ` + x
}

// TestP11_1_NestedAtMaxCalls: as many lists in one another as can be held against themselves, be told or be shown.
func TestP11_1_NestedAtMaxCalls(t *testing.T) {
	fits := func(ok bool, n int, x, want string) {
		t.Helper()
		if s := nested(n, x); ok {
			shows(t, s, want)
		} else {
			fails(t, s, api.MaxFuel, api.ErrDeep)
		}
	}
	// Three wait around: the let, the if, and == or the call.
	fits(true, api.MaxCalls-3, "x==x", "true")
	fits(false, api.MaxCalls-2, "x==x", "")
	fits(true, api.MaxCalls-3, "toString x", `""`)
	fits(false, api.MaxCalls-2, "toString x", "")
	fits(true, api.MaxCalls, "x", strings.Repeat("[", api.MaxCalls)+strings.Repeat("]", api.MaxCalls))
	fits(false, api.MaxCalls+1, "x", "")
}

// TestP11_1_NothingElseWaits: what a part is of another, by a function that is around all, is no evaluation.
func TestP11_1_NothingElseWaits(t *testing.T) {
	s := "let m=map isList;a0=[1];"
	var l []string
	for i := range 300 {
		s += "a" + strconv.Itoa(i+1) + "=m a" + strconv.Itoa(i) + ";"
		l = append(l, "a"+strconv.Itoa(i))
	}
	shows(t, s+"in if toString (map length ["+strings.Join(l, " ")+`]) == "" then 0 else a300`, "[false]")
}

// text is a let of texts: t has n bytes.
func text(n int) string {
	s, sum := `let b0 = "x"; `, `t = ""`
	for i := range 17 {
		s += "b" + strconv.Itoa(i+1) + " = b" + strconv.Itoa(i) + " + b" + strconv.Itoa(i) + "; "
		if n>>i&1 == 1 {
			sum += " + b" + strconv.Itoa(i)
		}
	}
	return s + sum + "; in "
}

func TestP11_1_MaxString(t *testing.T) {
	is := func(n int, x string) string { return text(n) + "(" + x + ") == \"\"" }
	for _, x := range []string{`t + ""`, `"" + t`, `"${t}"`, `"${t}${""}"`, `"${""}${t}"`, "toString t", "toString [t]", "toString {outPath = t;}", "{outPath = t;} + \"\"", `"" + {outPath = t;}`} {
		shows(t, is(api.MaxString, x), "false")
		fails(t, is(api.MaxString+1, x), api.MaxFuel, api.ErrLong)
	}
	for _, x := range []string{`t + "y"`, `"y" + t`, `"${t}y"`, `"y${t}"`, `"${t}${1}"`, `toString [t ""]`, `toString ["" t]`, `toString [t null]`, `toString [[] t]`, `t + {outPath = "y";}`, `"${t}${{outPath = "y";}}"`} {
		shows(t, is(api.MaxString-1, x), "false")
		fails(t, is(api.MaxString, x), api.MaxFuel, api.ErrLong)
	}
	fails(t, is(api.MaxString, "t + t"), api.MaxFuel, api.ErrLong)
	fails(t, is(api.MaxString, "toString [t t]"), api.MaxFuel, api.ErrLong)
	fails(t, is(api.MaxString, `"${t}${t}"`), api.MaxFuel, api.ErrLong)
	// It is asked behind each part, ahead of the next.
	for _, x := range []string{`"${t}${t}${throw "x"}"`, `"${t}y${throw "x"}"`, `toString [t t (throw "x")]`, `toString [t "" (throw "x")]`, `"${toString [t [t t] (throw "x")]}"`} {
		fails(t, is(api.MaxString, x), api.MaxFuel, api.ErrLong)
	}
	fails(t, is(api.MaxString, `"${t}${""}${throw "x"}"`), api.MaxFuel, api.ErrThrow)
	fails(t, is(api.MaxString, `toString [t (throw "x")]`), api.MaxFuel, api.ErrThrow)
	// What is far too long isn't made: this would be 256 MiB.
	long := text(api.MaxString) + "let l = [t]; m = " + strings.Repeat("(l: l ++ l) (", 12) + "l" + strings.Repeat(")", 12) + "; in "
	fails(t, long+"toString m", api.MaxFuel, api.ErrLong)
	fails(t, long+"m", api.MaxFuel, api.ErrLong)
	fails(t, long+`"${toString m}"`, api.MaxFuel, api.ErrLong)
}

func TestP11_1_MaxStringShown(t *testing.T) {
	x := func(n int) string { return strings.Repeat("x", n) }
	shows(t, text(api.MaxString-2)+"t", `"`+x(api.MaxString-2)+`"`)
	fails(t, text(api.MaxString-1)+"t", api.MaxFuel, api.ErrLong)
	shows(t, text(api.MaxString-4)+"[t]", `["`+x(api.MaxString-4)+`"]`)
	fails(t, text(api.MaxString-3)+"[t]", api.MaxFuel, api.ErrLong)
	shows(t, text(api.MaxString-9)+"{a = t;}", `{a = "`+x(api.MaxString-9)+`";}`)
	fails(t, text(api.MaxString-8)+"{a = t;}", api.MaxFuel, api.ErrLong)
	half := api.MaxString/2 - 5
	shows(t, text(half)+`[t t ""]`, `["`+x(half)+`" "`+x(half)+`" ""]`)
	fails(t, text(half+1)+`[t t ""]`, api.MaxFuel, api.ErrLong)
	// It is asked behind each value, of all that is told by then: what follows is needed as long as that fits.
	fails(t, text(half+2)+`[t t (throw "x")]`, api.MaxFuel, api.ErrThrow)
	fails(t, text(half+3)+`[t t (throw "x")]`, api.MaxFuel, api.ErrLong)
	fails(t, text(api.MaxString)+`[t (throw "x")]`, api.MaxFuel, api.ErrLong)
	fails(t, text(api.MaxString-3)+`[t (throw "x")]`, api.MaxFuel, api.ErrThrow)
	fails(t, text(api.MaxString-2)+`[t (throw "x")]`, api.MaxFuel, api.ErrLong)
	fails(t, text(api.MaxString-4)+`{a = t; b = throw "x";}`, api.MaxFuel, api.ErrLong)
	fails(t, text(api.MaxString-7)+`{a = t; b = throw "x";}`, api.MaxFuel, api.ErrThrow)
	fails(t, text(api.MaxString-6)+`{a = t; b = throw "x";}`, api.MaxFuel, api.ErrLong)
	// What stands behind a \ counts twice.
	shows(t, strings.ReplaceAll(text(api.MaxString/2-1), "x", `\n`)+"t", `"`+strings.Repeat(`\n`, api.MaxString/2-1)+`"`)
	fails(t, strings.ReplaceAll(text(api.MaxString/2), "x", `\n`)+"t", api.MaxFuel, api.ErrLong)
}

// list is a let of lists: l has n parts.
func list(n int) string {
	return strings.NewReplacer(`"x"`, "[1]", `""`, "[]", "+", "++", "t =", "l =").Replace(text(n))
}

func TestP11_1_MaxItems(t *testing.T) {
	n := strconv.Itoa(api.MaxItems)
	shows(t, list(api.MaxItems)+"length l", n)
	fails(t, list(api.MaxItems+1)+"length l", api.MaxFuel, api.ErrLong)
	shows(t, list(api.MaxItems)+"length (l ++ [])", n)
	shows(t, list(api.MaxItems)+"length ([] ++ l)", n)
	fails(t, list(api.MaxItems)+"l ++ [1]", api.MaxFuel, api.ErrLong)
	fails(t, list(api.MaxItems)+"[1] ++ l", api.MaxFuel, api.ErrLong)
	fails(t, list(api.MaxItems)+"l ++ l", api.MaxFuel, api.ErrLong)
	shows(t, list(api.MaxItems)+"length (map (x: x) l)", n)
	shows(t, list(api.MaxItems)+"elemAt (map (x: x + 1) l) 4095", "2")
	fails(t, list(api.MaxItems)+"elemAt l 4096", api.MaxFuel, api.ErrNone)
	shows(t, list(api.MaxItems)+"l == l", "true")
	shows(t, list(api.MaxItems)+"l", "["+strings.Repeat("1 ", api.MaxItems-1)+"1]")
	shows(t, list(api.MaxItems)+"toString l", `"`+strings.Repeat("1 ", api.MaxItems-1)+`1"`)
}

// TestP11_1_MaxFuel: an expression that takes all steps that there may be, and one that takes one more.
func TestP11_1_MaxFuel(t *testing.T) {
	s := list(api.MaxItems) + "f = map length; in [" + strings.Repeat("(length (map 0 l)) ", 48) + " "
	s = strings.Replace(s, "; in f = map length; in", "; in", 1)
	r, _, e := eval.Text(s+"]", api.MaxFuel)
	if e != api.OK || r.Steps > api.MaxFuel-10 {
		t.Fatalf("%d, %d", r.Steps, e)
	}
	// A part more that is a number takes two steps, one that is a number below 0 three.
	left := api.MaxFuel - r.Steps
	s += strings.Repeat("(-1)", left%2) + strings.Repeat(" 1", (left-3*(left%2))/2)
	r, _, e = eval.Text(s+"]", api.MaxFuel)
	if r.Steps != api.MaxFuel || e != api.OK {
		t.Errorf("%d, %d", r.Steps, e)
	}
	fails(t, s+"]", api.MaxFuel-1, api.ErrFuel)
	fails(t, s+" (-1)]", api.MaxFuel, api.ErrFuel)
	fails(t, strings.Replace(s, " 1", " (-1)", 1)+"]", api.MaxFuel, api.ErrFuel)
}
