package eval_test

import (
	"reflect"
	"slices"
	"strconv"
	"strings"
	"testing"

	"staddle/api"
	"staddle/base"
	"staddle/drv"
	"staddle/eval"
)

const (
	noughts = "00000000000000000000000000000000"
	hex     = "00000000000000000000000000000000000000000000000000000000000000ff"
)

// made is what comes of a derivation, with the digests of those that it needs.
func made(t *testing.T, d api.Drv, needs ...eval.Made) eval.Made {
	t.Helper()
	var sums [][32]byte
	slices.SortFunc(needs, func(a, b eval.Made) int { return strings.Compare(a.Path, b.Path) })
	for _, need := range needs {
		d.Drvs = append(d.Drvs, need.Path)
		sums = append(sums, need.Sum)
	}
	path, e := drv.Path(d)
	sum, f := drv.Modulo(d, sums)
	out, g := drv.Out(d, sums)
	if e != api.OK || f != api.OK || g != api.OK {
		t.Fatalf("%v: %d, %d, %d", d, e, f, g)
	}
	return eval.Made{Path: path, Drv: d, Sum: sum, Out: out}
}

// makes fails where an expression makes other derivations, which are told in any order.
func makes(t *testing.T, s string, want ...eval.Made) {
	t.Helper()
	slices.SortFunc(want, func(a, b eval.Made) int { return strings.Compare(a.Path, b.Path) })
	r, at, e := eval.Text(s, api.MaxFuel)
	if !reflect.DeepEqual(r.Made, want) || at != 0 || e != api.OK {
		t.Errorf("Text(%.300q) makes %.600v, %d, %d, and not %.600v", s, r.Made, at, e, want)
	}
}

// told is how a derivation's set is shown.
func told(m eval.Made) string {
	return `{drvPath = "` + m.Path + `"; name = "` + m.Drv.Name + `"; outPath = "` + m.Out + `"; type = "derivation";}`
}

// TestP6_Example holds a derivation against what another program has found.
func TestP6_Example(t *testing.T) {
	s := `derivation {name = "a"; recipe = "x";}`
	gives(t, s, `{drvPath = "jvmx4ilwnrj4dm06a6padj8b775qxv1l-a.drv"; name = "a"; outPath = "yalwdr8576nb616h946k8ddbg2bgwybf-a"; type = "derivation";}`, 10)
	r, _, _ := eval.Text(s, 99)
	if len(r.Made) != 1 || base.Hex(r.Made[0].Sum[:]) != "eb985d4a696439323eca9ab04d92a363a28097c10a4abedf93af62a80796218d" {
		t.Errorf("Made = %v", r.Made)
	}
}

func TestP6_OneDerivation(t *testing.T) {
	a := made(t, api.Drv{Name: "a", Recipe: "x"})
	s := `derivation {name = "a"; recipe = "x";}`
	makes(t, s, a)
	shows(t, s, told(a))
	gives(t, "("+s+").type", `"derivation"`, 7)
	gives(t, "("+s+").name", `"a"`, 7)
	gives(t, "("+s+").drvPath", `"`+a.Path+`"`, 7)
	gives(t, "("+s+").outPath", `"`+a.Out+`"`, 7)
	gives(t, `"${`+s+`}"`, `"`+a.Out+`"`, 8)
	gives(t, "toString ("+s+")", `"`+a.Out+`"`, 10)
	gives(t, "attrNames ("+s+")", `["drvPath" "name" "outPath" "type"]`, 12)
	gives(t, s+" == "+s, "true", 17)
	shows(t, "isList ("+s+")", "false")
	// What else the set has is not asked.
	makes(t, `derivation {name = "a"; recipe = "x"; other = throw "x"; type = 1; outPath = 2;}`, a)
	makes(t, `derivation (rec {recipe = "${b}"; name = "a"; b = "x";})`, a)
	fixed := made(t, api.Drv{Name: "f-1.0", Recipe: "fail \"no\"\n", Fixed: hex})
	makes(t, `derivation {name = "f-1.0"; recipe = "fail \"no\"\n"; fixed = "`+hex+`";}`, fixed)
	shows(t, `derivation {name = "f-1.0"; recipe = "fail \"no\"\n"; fixed = "`+hex+`";}`, told(fixed))
	makes(t, `derivation {name = "a"; recipe = "x"; fixed = "";}`, a)
	makes(t, `derivation {name = "a"; recipe = {outPath = "x";}; fixed = {outPath = {outPath = "";};};}`, a)
	makes(t, `derivation {name = {outPath = "a";}; recipe = "x";}`, a)
	makes(t, `derivation {name = "a"; recipe = "";}`, made(t, api.Drv{Name: "a"}))
}

// TestP6_WhatIsMade: what was made, once each and by their paths, be it shown or not, and nothing else.
func TestP6_WhatIsMade(t *testing.T) {
	a := made(t, api.Drv{Name: "a", Recipe: "x"})
	b := made(t, api.Drv{Name: "b", Recipe: "x"})
	c := made(t, api.Drv{Name: "c", Recipe: "x"})
	head := `let d = n: derivation {name = n; recipe = "x";}; in `
	makes(t, head+`[(d "a") (d "b") (d "c")]`, a, b, c)
	makes(t, head+`[(d "c") (d "b") (d "a") (d "b")]`, a, b, c)
	makes(t, head+`(d "a" == d "b") || true`, a, b)
	makes(t, head+`if (d "a").type == "derivation" then 1 else d "b"`, a)
	makes(t, head+`length [(d "a") (d "b")]`)
	makes(t, head+`{a = d "a"; b = d "b";}.a`, a)
	makes(t, head+`let x = d "a"; in [x x x.outPath]`, a)
	makes(t, head+"d")
	makes(t, "1")
	r, _, e := eval.Text(head+`[(d "a") (throw "x")]`, 999)
	if len(r.Made) != 0 || e != api.ErrThrow {
		t.Errorf("beside %d: %v", e, r.Made)
	}
}

func TestP6_Needs(t *testing.T) {
	a := made(t, api.Drv{Name: "a", Recipe: "x"})
	b := made(t, api.Drv{Name: "b", Recipe: "y", Fixed: hex})
	head := `let a = derivation {name = "a"; recipe = "x";}; b = derivation {name = "b"; recipe = "y"; fixed = "` + hex + `";}; d = recipe: derivation {name = "d"; inherit recipe;}; in `
	p, q := noughts+"-p", noughts+"-q.drv"
	for recipe, want := range map[string]struct {
		text    string
		needs   []eval.Made
		sources []string
	}{
		`"copy ${a} . f"`:             {"copy " + a.Out + " . f", []eval.Made{a}, nil},
		`"${a}${b}"`:                  {a.Out + b.Out, []eval.Made{a, b}, nil},
		`"${b} ${a} ${b}"`:            {b.Out + " " + a.Out + " " + b.Out, []eval.Made{a, b}, nil},
		`a`:                           {a.Out, []eval.Made{a}, nil},
		`a.outPath`:                   {a.Out, []eval.Made{a}, nil},
		`a.drvPath`:                   {a.Path, []eval.Made{a}, nil},
		`a + "x"`:                     {a.Out + "x", []eval.Made{a}, nil},
		`"x" + a`:                     {"x" + a.Out, []eval.Made{a}, nil},
		`a + b`:                       {a.Out + b.Out, []eval.Made{a, b}, nil},
		`toString a`:                  {a.Out, []eval.Made{a}, nil},
		`toString [1 a [b] null]`:     {"1 " + a.Out + " " + b.Out + " ", []eval.Made{a, b}, nil},
		`toString "${a}"`:             {a.Out, []eval.Made{a}, nil},
		`{outPath = {outPath = a;};}`: {a.Out, []eval.Made{a}, nil},
		`"${{outPath = a;}}"`:         {a.Out, []eval.Made{a}, nil},
		`a.name + a.type`:             {"aderivation", nil, nil},
		`toString (length [a])`:       {"1", nil, nil},
		`if a == b then "x" else ""`:  {"", nil, nil},
		`"` + a.Out + `"`:             {a.Out, nil, nil},
		`"" + "` + a.Path + `"`:       {a.Path, nil, nil},
		`storePath "` + p + `"`:       {p, nil, []string{p}},
		`"${storePath "` + q + `"} ${storePath "` + p + `"} ${storePath "` + p + `"}"`: {q + " " + p + " " + p, nil, []string{p, q}},
		`storePath "` + p + `" + a`:        {p + a.Out, []eval.Made{a}, []string{p}},
		`elemAt (attrNames {x = a;}) 0`:    {"x", nil, nil},
		`elemAt (map (x: "${x}") [a b]) 1`: {b.Out, []eval.Made{b}, nil},
		`{x = a;}.x`:                       {a.Out, []eval.Made{a}, nil},
		`"${toString [a]}"`:                {a.Out, []eval.Made{a}, nil},
		`storePath a.outPath`:              {a.Out, nil, []string{a.Out}}, // a text with that path alone as its context
		`storePath a.drvPath`:              {a.Path, []eval.Made{a}, nil},
	} {
		d := made(t, api.Drv{Name: "d", Recipe: want.text, Sources: want.sources}, want.needs...)
		// a and b are made ahead, so that no recipe makes more.
		makes(t, head+`assert isList [] && a != b; d (`+recipe+`)`, a, b, d)
		shows(t, head+`(d (`+recipe+`)).outPath`, `"`+d.Out+`"`)
	}
}

// TestP6_ContextsOfAll: the name's context counts, as the recipe's does, but the name that the set has then has none. (No digest in digits has a context, as no path is in it.)
func TestP6_ContextsOfAll(t *testing.T) {
	n := made(t, api.Drv{Name: "n", Recipe: "x"})
	p := noughts + "-p"
	head := `let n = derivation {name = "n"; recipe = "x";}; e = recipe: derivation {name = "e"; inherit recipe;}; in `
	d := made(t, api.Drv{Name: n.Out, Recipe: "y"}, n)
	makes(t, head+`derivation {name = n; recipe = "y";}`, n, d)
	makes(t, head+`derivation {name = "${n}"; recipe = "y";}`, n, d)
	makes(t, head+`derivation {name = "${n}"; recipe = "y" + n;}`, n, made(t, api.Drv{Name: n.Out, Recipe: "y" + n.Out}, n))
	makes(t, head+`e (derivation {name = "${n}"; recipe = "y";}).name`, n, d, made(t, api.Drv{Name: "e", Recipe: n.Out}))
	makes(t, head+`derivation {name = storePath "`+p+`"; recipe = "y";}`, made(t, api.Drv{Name: p, Recipe: "y", Sources: []string{p}}))
	fails(t, `derivation {name = "f"; recipe = "y"; fixed = storePath "`+p+`";}`, 99, api.ErrForm)
}

// TestP6_MadeHere: a derivation's path that was not made here is a source, until it is made.
func TestP6_MadeHere(t *testing.T) {
	a := made(t, api.Drv{Name: "a", Recipe: "x"})
	head := `let a = derivation {name = "a"; recipe = "x";}; p = storePath "` + a.Path + `"; d = n: derivation {name = n; recipe = p;}; in `
	source := func(n string) eval.Made { return made(t, api.Drv{Name: n, Recipe: a.Path, Sources: []string{a.Path}}) }
	need := func(n string) eval.Made { return made(t, api.Drv{Name: n, Recipe: a.Path}, a) }
	makes(t, head+`d "b"`, source("b"))
	makes(t, head+`[(d "b") a (d "c")]`, source("b"), a, need("c"))
	makes(t, head+`[a (d "b")]`, a, need("b"))
	// What was made in one call is none that was made in the next.
	makes(t, head+`d "b"`, source("b"))
}

// TestP6_Chain: the digest of what is made hangs on those of what it needs, and on theirs.
func TestP6_Chain(t *testing.T) {
	src := made(t, api.Drv{Name: "src", Recipe: "s", Fixed: hex})
	lib := made(t, api.Drv{Name: "lib", Recipe: "copy " + src.Out + " . lib"}, src)
	app := made(t, api.Drv{Name: "app", Recipe: lib.Out + src.Out, Sources: []string{noughts + "-p"}}, lib, src)
	app.Drv.Recipe += noughts + "-p"
	app = made(t, api.Drv{Name: app.Drv.Name, Recipe: app.Drv.Recipe, Sources: app.Drv.Sources}, lib, src)
	makes(t, `rec {
		src = derivation {name = "src"; recipe = "s"; fixed = "`+hex+`";};
		lib = derivation {name = "lib"; recipe = "copy ${src} . lib";};
		app = derivation {name = "app"; recipe = lib + src + storePath "`+noughts+`-p";};
	}.app`, src, lib, app)
}

func TestP11_1_DerivationErrors(t *testing.T) {
	for _, s := range []string{"1", `"a"`, "true", "null", "[]", "(x: x)"} {
		stops(t, "derivation "+s, 3, api.ErrKind)
	}
	for _, s := range []string{"1", "true", "null", "[]", "{}", "(x: x)", "{outPath = null;}"} {
		fails(t, `derivation {name = `+s+`; recipe = throw "x";}`, 99, api.ErrKind)
		fails(t, `derivation {name = "a"; recipe = `+s+`; fixed = throw "x";}`, 99, api.ErrKind)
		fails(t, `derivation {name = "a"; recipe = "x"; fixed = `+s+`;}`, 99, api.ErrKind)
	}
	stops(t, "derivation {}", 3, api.ErrNone)
	stops(t, `derivation {recipe = throw "x";}`, 3, api.ErrNone)
	stops(t, `derivation {name = "a";}`, 4, api.ErrNone)
	stops(t, `derivation {name = throw "x";}`, 6, api.ErrThrow)
	stops(t, `derivation {recipe = x; name = throw "x"; fixed = true;}`, 6, api.ErrThrow)
	stops(t, `derivation {recipe = throw "x"; name = "a"; fixed = true;}`, 7, api.ErrThrow)
	stops(t, `derivation {recipe = "x"; name = "a"; fixed = throw "x";}`, 8, api.ErrThrow)
	stops(t, `derivation (throw "x")`, 5, api.ErrThrow)
	stops(t, `derivation {name = ""; recipe = "x";}`, 5, api.ErrForm)
	gives(t, "derivation", "<fn>", 2)
	for _, name := range []string{"", ".a", "a b", "a.drv", "a/b", strings.Repeat("n", api.MaxName-3), strings.Repeat("n", api.MaxString/8)} {
		fails(t, `derivation {name = "`+name[:min(len(name), 7000)]+`"; recipe = "x";}`, 99, api.ErrForm)
	}
	for _, fixed := range []string{"0", hex[1:], hex + "0", hex[:62], "F" + hex[1:], strings.Repeat(" ", 64)} {
		fails(t, `derivation {name = "a"; recipe = "x"; fixed = "`+fixed+`";}`, 99, api.ErrForm)
	}
}

// TestP11_1_DerivationLimits: a derivation's limits, at each and one beyond.
func TestP11_1_DerivationLimits(t *testing.T) {
	name := strings.Repeat("n", api.MaxName-4)
	makes(t, `derivation {name = "`+name+`"; recipe = "x";}`, made(t, api.Drv{Name: name, Recipe: "x"}))
	fails(t, `derivation {name = "`+name+`n"; recipe = "x";}`, 99, api.ErrForm)
	recipe := strings.Repeat("r", api.MaxText)
	makes(t, `derivation {name = "a"; recipe = "`+recipe+`";}`, made(t, api.Drv{Name: "a", Recipe: recipe}))
	fails(t, `derivation {name = "a"; recipe = "`+recipe+`r";}`, 99, api.ErrForm)
	numbers := func(n int) string {
		s := "["
		for i := range n {
			s += " " + strconv.Itoa(10+i)
		}
		return s + "]"
	}
	needs := func(n int) (string, []eval.Made) {
		var l []eval.Made
		for i := range n {
			l = append(l, made(t, api.Drv{Name: "n", Recipe: strconv.Itoa(10 + i)}))
		}
		return `let l = map (n: derivation {name = "n"; recipe = toString n;}) ` + numbers(n) + `; in derivation {name = "d"; recipe = toString l;}`, l
	}
	s, l := needs(api.MaxInputs)
	var outs []string
	for _, m := range l {
		outs = append(outs, m.Out)
	}
	makes(t, s, append(slices.Clone(l), made(t, api.Drv{Name: "d", Recipe: strings.Join(outs, " ")}, l...))...)
	s, _ = needs(api.MaxInputs + 1)
	fails(t, s, api.MaxFuel, api.ErrForm)
	sources := func(n int) string {
		return `let l = map (n: storePath "` + noughts + `-${n}") ` + numbers(n) + `; in derivation {name = "d"; recipe = toString l;}`
	}
	var paths []string
	for i := range api.MaxInputs {
		paths = append(paths, noughts+"-"+strconv.Itoa(10+i))
	}
	makes(t, sources(api.MaxInputs), made(t, api.Drv{Name: "d", Recipe: strings.Join(paths, " "), Sources: paths}))
	fails(t, sources(api.MaxInputs+1), api.MaxFuel, api.ErrForm)
}

// TestP6_WhateverElse: what a derivation's paths are hangs on nothing but itself.
func TestP6_WhateverElse(t *testing.T) {
	a := made(t, api.Drv{Name: "a", Recipe: "x"})
	for _, s := range []string{
		`derivation {name = "a"; recipe = "x";}`,
		`let b = derivation {name = "b"; recipe = "y";}; in if b == b then derivation {recipe = "x"; name = "a";} else b`,
		`with {name = "a"; recipe = "x";}; derivation {inherit name recipe;}`,
		`let d = args: derivation ({recipe = "x";} // args); in d {name = "a";}`,
		`elemAt (map (name: derivation {inherit name; recipe = "x";}) ["b" "a" "c"]) 1`,
		`let derivation' = {name, recipe ? "x"}: derivation {inherit name recipe;}; in derivation' {name = "a";}`,
	} {
		shows(t, s, told(a))
	}
}
