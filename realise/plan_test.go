package realise_test

import (
	"crypto/sha256"
	"encoding/hex"
	"slices"
	"strconv"
	"strings"
	"testing"

	"staddle/api"
	"staddle/drv"
	"staddle/eval"
	"staddle/realise"
	"staddle/valid"
)

// outs fails where a derivation makes another path; that path.
func outs(t *testing.T, b *valid.DB, path, want string) string {
	t.Helper()
	stays(t, b, func() {
		if out, e := realise.Out(b, path); e != api.OK || out != want {
			t.Fatalf("Out(%s) = %q, %d, and not %s", path, out, e, want)
		}
	})
	return want
}

// plans fails where others must be done, or in another order.
func plans(t *testing.T, b *valid.DB, path string, want ...string) {
	t.Helper()
	stays(t, b, func() {
		if l, e := realise.Plan(b, path); e != api.OK || !slices.Equal(l, want) {
			t.Fatalf("Plan(%s) = %v, %d, and not %v", path, l, e, want)
		}
	})
}

// outOf: the path of what a derivation makes.
func outOf(t *testing.T, b *valid.DB, path string) string {
	t.Helper()
	out, e := realise.Out(b, path)
	is(t, "Out", e, api.OK)
	return out
}

// errs fails where Out, Plan and Realise of a path have another error.
func errs(t *testing.T, b *valid.DB, path string, want api.Errno) {
	t.Helper()
	stays(t, b, func() {
		if out, e := realise.Out(b, path); out != "" || e != want {
			t.Fatalf("Out(%.100q) = %q, %d, and not %d", path, out, e, want)
		}
		if l, e := realise.Plan(b, path); len(l) > 0 || e != want {
			t.Fatalf("Plan(%.100q) = %v, %d, and not %d", path, l, e, want)
		}
		if out, n, e := realise.Realise(b, path); out != "" || n != 0 || e != want {
			t.Fatalf("Realise(%.100q) = %q, %d, %d, and not %d", path, out, n, e, want)
		}
	})
}

// addsAll adds what an expression makes, and answers it by its names.
func addsAll(t *testing.T, b *valid.DB, s string) map[string]eval.Made {
	t.Helper()
	r, place, e := eval.Text(s, api.MaxFuel)
	if e != api.OK {
		t.Fatalf("%d at %d of %s", e, place, s)
	}
	l := map[string]eval.Made{}
	for left := r.Made; len(left) > 0; {
		i := slices.IndexFunc(left, func(m eval.Made) bool {
			return !slices.ContainsFunc(m.Drv.Drvs, func(path string) bool { return !b.Is(path) })
		})
		adds(t, b, left[i].Drv)
		l[left[i].Drv.Name] = left[i]
		left = slices.Delete(left, i, i+1)
	}
	return l
}

// diamond: four derivations, of which app needs lib and tool, and these need base.
const diamond = `let
	base = derivation { name = "base"; recipe = "write f base"; };
	lib = derivation { name = "lib"; recipe = "copy ${base} f f\nappend f lib"; };
	tool = derivation { name = "tool"; recipe = "copy ${base} f g\nexec g"; };
	app = derivation { name = "app"; recipe = "copy ${lib} \"\" lib\ncopy ${tool} g run\nlink l @out@/run"; };
in app.outPath`

// inOrder: some derivations in the order of their paths, but each behind those that it needs.
func inOrder(l map[string]eval.Made, names ...string) []string {
	var paths []string
	for len(names) > 0 {
		least := -1
		for i, name := range names {
			ready := !slices.ContainsFunc(names, func(other string) bool { return slices.Contains(l[name].Drv.Drvs, l[other].Path) })
			if ready && (least < 0 || l[name].Path < l[names[least]].Path) {
				least = i
			}
		}
		paths = append(paths, l[names[least]].Path)
		names = slices.Delete(names, least, least+1)
	}
	return paths
}

func TestP18_2_Out(t *testing.T) {
	d, b := fresh(t, 100)
	a := adds(t, b, made("a", "x"))
	outs(t, b, a, "yalwdr8576nb616h946k8ddbg2bgwybf-a")
	simple, fixed := addsAll(t, b, diamond), addsAll(t, b, `let
		hex = "`+strings.Repeat("ab", 32)+`";
		f = derivation { name = "f"; recipe = "write x y"; fixed = hex; };
		g = derivation { name = "g"; recipe = "copy ${f} x x"; fixed = hex; };
		h = derivation { name = "h"; recipe = "copy ${f} ${g}"; };
		i = derivation { name = "i"; recipe = "copy ${h} ${f} ${storePath "`+a+`"}"; };
	in i.outPath`)
	for range 2 {
		for _, l := range []map[string]eval.Made{simple, fixed} {
			for _, x := range l {
				outs(t, b, x.Path, x.Out)
			}
		}
		b = falls(t, d)
	}
	off(t, d)
	outs(t, b, simple["app"].Path, simple["app"].Out)
}

// sumBy: the digest of a text, in digits, by another way.
func sumBy(s string) string {
	sum := sha256.Sum256([]byte(s))
	return hex.EncodeToString(sum[:])
}

// TestP6_Out: a derivation's path comes of its text, that of what it makes of the text with the digests of those that it needs, and of a fixed one of its digest alone.
func TestP6_Out(t *testing.T) {
	_, b := fresh(t, 100)
	src := addsTree(t, b, "src", file("src"))
	low, high := made("low", "", src), made("high", "")
	if sumBy(`Derive("low",[],["`+src+`"],"","")`) > sumBy(`Derive("high",[],[],"","")`) {
		low, high = high, low
	}
	lowText, highText := string(textOf(t, low).Data), string(textOf(t, high).Data)
	a, c := adds(t, b, low), adds(t, b, high)
	outs(t, b, a, pathBy(t, "output", sumBy(lowText), low.Name))
	outs(t, b, c, pathBy(t, "output", sumBy(highText), high.Name))
	text := `Derive("top",["` + sumBy(lowText) + `","` + sumBy(highText) + `"],["` + src + `"],"fail x","")`
	top := adds(t, b, made("top", "fail x", a, c, src))
	outs(t, b, top, pathBy(t, "output", sumBy(text), "top"))
	same := made("fix", "", top, src)
	same.Fixed = strings.Repeat("0f", 32)
	fix := adds(t, b, same)
	told := "fixed:" + same.Fixed + ":fix"
	outs(t, b, fix, pathBy(t, "fixed", sumBy(told), "fix"))
	// One that has the same digest may stand for it, and nothing of what needs it changes.
	other := made("fix", "write f x")
	other.Fixed = same.Fixed
	too := adds(t, b, other)
	outs(t, b, too, pathBy(t, "fixed", sumBy(told), "fix"))
	for _, need := range []string{fix, too} {
		user := adds(t, b, made("user", "", need))
		outs(t, b, user, pathBy(t, "output", sumBy(`Derive("user",["`+sumBy(told)+`"],[],"","")`), "user"))
	}
}

func TestP18_2_Plan(t *testing.T) {
	d, b := fresh(t, 100)
	l := addsAll(t, b, diamond)
	base, lib, tool, app := l["base"], l["lib"], l["tool"], l["app"]
	plans(t, b, base.Path, base.Path)
	plans(t, b, lib.Path, base.Path, lib.Path)
	plans(t, b, app.Path, inOrder(l, "base", "lib", "tool", "app")...)
	registers(t, b, tool.Out, dir("g", file("base")))
	plans(t, b, tool.Path)
	plans(t, b, app.Path, base.Path, lib.Path, app.Path)
	// Whom nothing needs that must be done must not be done, whether what it makes is there or not.
	registers(t, b, lib.Out, dir("f", file("baselib")))
	plans(t, b, app.Path, app.Path)
	plans(t, b, base.Path, base.Path)
	registers(t, b, app.Out, dir())
	plans(t, b, app.Path)
	b = falls(t, d)
	is(t, "Remove", b.Remove(tool.Out), api.OK)
	plans(t, b, app.Path)
	plans(t, b, tool.Path, base.Path, tool.Path)
	is(t, "Remove", b.Remove(app.Out), api.OK)
	plans(t, b, app.Path, base.Path, tool.Path, app.Path)
	registers(t, b, base.Out, dir("f", file("base")))
	plans(t, b, app.Path, tool.Path, app.Path)
	is(t, "Remove", b.Remove(lib.Out), api.OK)
	plans(t, b, app.Path, inOrder(l, "lib", "tool", "app")...)
	off(t, d)
	plans(t, b, app.Path, inOrder(l, "lib", "tool", "app")...)
}

// TestP18_2_PlanOrder: the order is that of all that are needed, and not that of those that must be done.
func TestP18_2_PlanOrder(t *testing.T) {
	_, b := fresh(t, 100)
	var x, y, z string // x < y < z, and x needs z: so y is ahead of x
	var need, early api.Drv
	for i := 0; !(x < y && y < z); i++ {
		need, early = made("z", strconv.Itoa(i)), made("y", strconv.Itoa(i))
		z, _ = drv.Path(need)
		y, _ = drv.Path(early)
		x, _ = drv.Path(made("x", "", z))
	}
	adds(t, b, need)
	adds(t, b, early)
	adds(t, b, made("x", "", z))
	top := adds(t, b, made("top", "", x, y))
	plans(t, b, top, y, z, x, top)
	registers(t, b, outOf(t, b, z), file(""))
	plans(t, b, top, y, x, top)
	registers(t, b, outOf(t, b, y), file(""))
	plans(t, b, top, x, top)
}

// TestP18_2_PlanChain: a row in which each needs the next, as long as there is room for.
func TestP18_2_PlanChain(t *testing.T) {
	_, b := fresh(t, 2000)
	var l []string
	for range 120 {
		l = append(l, adds(t, b, made("n", "write f x", l[max(0, len(l)-2):]...)))
	}
	last := l[len(l)-1]
	plans(t, b, last, l...)
	registers(t, b, outOf(t, b, l[60]), file(""))
	plans(t, b, last, append(slices.Clone(l[:60]), l[61:]...)...)
	registers(t, b, outOf(t, b, l[61]), file(""))
	plans(t, b, last, l[62:]...)
}

func TestP18_2_Errors(t *testing.T) {
	d, b := fresh(t, 200)
	src := addsTree(t, b, "src", file("src"))
	l := strangers(t, b)
	for range 2 {
		for _, wrong := range []string{"", "x", src, pathOf("0", "a"), "store/" + pathOf("0", "a.drv")} {
			errs(t, b, wrong, api.ErrText)
		}
		errs(t, b, pathOf("0", "a.drv"), api.ErrNone)
		for path, want := range l {
			errs(t, b, path, want)
		}
		b = falls(t, d)
	}
}

// TestP18_2_FirstError: of it, then of those that it needs, in their order, then of those that these need.
func TestP18_2_FirstError(t *testing.T) {
	_, b := fresh(t, 2000)
	// Derivations that are valid, but not by Add: so what they need may be at fault.
	put := func(name string, needs ...string) string {
		x := made(name, "", needs...)
		path, e := drv.Path(x)
		is(t, "Path", e, api.OK)
		return registers(t, b, path, textOf(t, x))
	}
	fault := func(sign string, e api.Errno) string {
		path := pathOf(sign, "f.drv")
		text := map[api.Errno]string{api.ErrText: "x", api.ErrForm: `Derive("",[],[],"","")`, api.ErrSum: `Derive("f",[],[],"","")`}
		if e != api.ErrNone {
			registers(t, b, path, file(text[e]))
		}
		return path
	}
	none, text, form, sum := fault("1", api.ErrNone), fault("2", api.ErrText), fault("3", api.ErrForm), fault("4", api.ErrSum)
	good := put("good")
	for _, r := range []struct {
		want  api.Errno
		needs []string
	}{
		{api.ErrNone, []string{none, text, form, sum}},
		{api.ErrText, []string{text, form, sum}},
		{api.ErrForm, []string{form, sum, good}},
		{api.ErrSum, []string{sum, good}},
		{api.ErrText, []string{text, put("n", none)}},
		{api.ErrSum, []string{put("n", none), put("t", text), put("g", good, put("n", none)), sum}},
		{api.ErrForm, []string{put("deep", put("deeper", put("deepest", text))), put("g", good), put("h", put("i", form))}},
	} {
		errs(t, b, put("top", r.needs...), r.want)
		errs(t, b, put("over", put("top", r.needs...), good), r.want)
	}
	// By the order of their paths, and what is nearer by first.
	for i := range 20 {
		p, q := put("p"+strconv.Itoa(i), text), put("q"+strconv.Itoa(i), form)
		want := api.ErrText
		if q < p {
			want = api.ErrForm
		}
		errs(t, b, put("top", p, q), want)
		errs(t, b, put("top", put("far", p), q), api.ErrForm)
		errs(t, b, put("top", put("far", q), p), api.ErrText)
		errs(t, b, put("top", put("far", put("farther", q)), put("far", p)), api.ErrText)
	}
	// They come to light also where what is made is valid already, and where it is told ahead.
	x := made("x", "", sum)
	x.Fixed = digits(t, dir())
	path, _ := drv.Path(x)
	registers(t, b, path, textOf(t, x))
	out := pathBy(t, "fixed", sumBy("fixed:"+x.Fixed+":x"), "x")
	registers(t, b, out, dir())
	errs(t, b, path, api.ErrSum)
	user := put("user", good)
	registers(t, b, outOf(t, b, user), dir())
	is(t, "Remove", b.Remove(good), api.OK)
	errs(t, b, user, api.ErrNone)
}

// TestP18_2_OneOut: of several derivations with one Out the one that is done first makes it.
func TestP18_2_OneOut(t *testing.T) {
	for _, first := range []int{0, 1} {
		d, b := fresh(t, 100)
		src := addsTree(t, b, "src", dir("f", file("x")))
		l := []string{
			adds(t, b, fixed(t, made("f", "write f x"), dir("f", file("x")))),
			adds(t, b, fixed(t, made("f", "copy "+src+" f f", src), dir("f", file("x")))),
		}
		out := outOf(t, b, l[0])
		outs(t, b, l[1], out)
		users := []string{adds(t, b, made("u", "copy "+out+" f g", l[0])), adds(t, b, made("u", "copy "+out+" f g", l[1]))}
		used := outOf(t, b, users[0])
		outs(t, b, users[1], used)
		plans(t, b, users[0], l[0], users[0])
		plans(t, b, users[1], l[1], users[1])
		realises(t, b, l[first], 1)
		for range 2 {
			has(t, b, out, dir("f", file("x")), l[first])
			plans(t, b, l[0])
			plans(t, b, l[1])
			plans(t, b, users[0], users[0])
			plans(t, b, users[1], users[1])
			stays(t, b, func() { realises(t, b, l[1-first], 0) })
			b = falls(t, d)
		}
		realises(t, b, users[1-first], 1)
		has(t, b, used, dir("g", file("x")), users[1-first])
		stays(t, b, func() { realises(t, b, users[first], 0) })
	}
}

// TestP18_2_OneOutInOnePlan: those that are in one plan are all done, and counted.
func TestP18_2_OneOutInOnePlan(t *testing.T) {
	_, b := fresh(t, 100)
	x := dir("f", file("x"))
	one := adds(t, b, fixed(t, made("f", "write f x"), x))
	two := adds(t, b, fixed(t, made("f", "write f y\nswap f y x"), x))
	out := outOf(t, b, one)
	// One of them needs the other: it may read what that has made, which is its own Out.
	three := adds(t, b, fixed(t, made("f", "copy "+out+" f f", one), x))
	user := adds(t, b, made("u", "copy "+out+" \"\" f", one, two, three))
	l := []string{one, two, three, user}
	for _, path := range l[:3] {
		outs(t, b, path, out)
	}
	plan := inOrder(map[string]eval.Made{"1": {Path: one}, "2": {Path: two}, "3": {Path: three, Drv: made("", "", one)}}, "1", "2", "3")
	plans(t, b, user, append(plan, user)...)
	plans(t, b, three, one, three)
	realises(t, b, user, 4)
	has(t, b, out, x, plan[0])
	has(t, b, outOf(t, b, user), dir("f", x), user)
	for _, path := range l {
		plans(t, b, path)
	}
	// One that fails is done too, and fails, though there is already what it makes.
	bad := made("f", "fail x", one)
	bad = fixed(t, bad, x)
	path := adds(t, b, bad)
	realises(t, b, path, 0)
	is(t, "Remove", b.Remove(outOf(t, b, user)), api.OK)
	is(t, "Remove", b.Remove(out), api.OK)
	stops(t, b, path, 1, api.ErrThrow)
	has(t, b, out, x, one)
	realises(t, b, path, 0)
}
