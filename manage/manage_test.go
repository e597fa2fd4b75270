package manage_test

import (
	"math"
	"slices"
	"strconv"
	"strings"
	"testing"

	"staddle/api"
	"staddle/base"
	"staddle/eval"
	"staddle/manage"
	"staddle/pack"
	"staddle/profile"
	"staddle/realise"
	"staddle/samples"
	"staddle/tree"
	"staddle/valid"
)

// Paths that another program has found.
const (
	srcPath = "8fr240k0h54kdgkffxmvf7y3f3a7cf50-src"     // a file with x
	libDrv  = "6rr687nvq68l5434c3nn1zkms80iwp4w-lib.drv" // copy src "" f
	libPath = "gw32wyh9kdgk6jjg2gdh4ddvbvvjc1k8-lib"
	appDrv  = "ig9c3b4azgnbh2y25mn04ygxaxq6b8kb-app.drv" // link l lib/f
	appPath = "aflx15lnf9s72dsz3zfih9kggqrask0c-app"
	aDrv    = "5ffnln56i9b7v8yv0fq0ynlm3qvdgkpn-a.drv" // write f x
	aPath   = "azwasqkj3j07n496nb57h065rr7z290j-a"
	bDrv    = "p3krif62d61axmzyw292fl8mzg25a96h-b.drv" // write g y
	bPath   = "4qmlrm8ljyfbx6sxpcc6p0vrngvjg34z-b"
	noPath  = "00000000000000000000000000000000-none"
	noDrv   = "00000000000000000000000000000000-none.drv"
)

// The expressions that make these.
const (
	aText   = `(derivation { name = "a"; recipe = "write f x"; })`
	bText   = `(derivation { name = "b"; recipe = "write g y"; })`
	libText = `(derivation { name = "lib"; recipe = "copy ${storePath "` + srcPath + `"} \"\" f"; })`
	appText = `(derivation { name = "app"; recipe = "link l ${` + libText + `}/f"; })`
)

const fuel = 20000

var file, dir, link = samples.File, samples.Dir, samples.Link

// makes: the event that makes an expression.
func makes(text string) manage.Event {
	return manage.Event{Kind: manage.Make, A: text, N: fuel}
}

// adds: the event that keeps a tree.
func adds(name string, x api.Tree) manage.Event {
	return manage.Event{Kind: manage.Tree, A: name, Tree: x}
}

// of: an event of a kind with no more than a text.
func of(kind byte, a string) manage.Event {
	return manage.Event{Kind: kind, A: a}
}

// about: an event of a kind with two texts.
func about(kind byte, a, b string) manage.Event {
	return manage.Event{Kind: kind, A: a, B: b}
}

// numbered: an event of a kind with a text and a number.
func numbered(kind byte, a string, n int) manage.Event {
	return manage.Event{Kind: kind, A: a, N: n}
}

// off lets the power go off.
func off(t *testing.T, s *manage.Store) {
	t.Helper()
	does(t, s, manage.Event{Kind: manage.Arm, N: 1}, manage.Reply{})
	does(t, s, adds("off", file("off")), manage.Reply{E: api.ErrCrash})
	is(t, "Up", s.Up(), false)
}

// closed lets the power go off while all is opened.
func closed(t *testing.T, s *manage.Store) {
	t.Helper()
	does(t, s, manage.Event{Kind: manage.Crash, N: 1}, manage.Reply{E: api.ErrCrash})
	is(t, "Up", s.Up(), false)
	is(t, "DB", s.DB(), nil)
}

func TestP22_1_New(t *testing.T) {
	for _, n := range []int{math.MinInt, -1, 0, 1, 2, 5, api.MaxSectors + 1, math.MaxInt} {
		if s, e := manage.New(n); s != nil || e != api.ErrArg {
			t.Errorf("New(%d) = %v, %d", n, s, e)
		}
	}
	for _, n := range []int{6, 7, 100, api.MaxSectors} {
		s := fresh(t, n)
		is(t, "Up", s.Up(), true)
		for range 2 {
			if l := tree.Paths(s.DB().FS().Tree()); !slices.Equal(l, []string{"db", "store"}) {
				t.Errorf("in a new store stands %q", l)
			}
			holds(t, s)
			reopens(t, s)
		}
	}
	// The room is that of the device.
	for n := 6; n < 40; n++ {
		w := twinOf(t, n)
		is(t, "Room", fresh(t, n).DB().FS().Room(), w.b.FS().Room())
	}
}

// TestP22_1_New_Apart: each store has a device of its own.
func TestP22_1_New_Apart(t *testing.T) {
	s, other := fresh(t, 60), fresh(t, 60)
	done(t, s, adds("src", file("x")))
	holds(t, s, srcPath)
	holds(t, other)
	off(t, other)
	reopens(t, s)
	is(t, "Up", other.Up(), false)
	holds(t, s, srcPath)
}

func TestP22_1_DB(t *testing.T) {
	s := fresh(t, 60)
	b := s.DB()
	done(t, s, adds("src", file("x")))
	is(t, "DB", s.DB(), b)
	x, e := b.Tree(srcPath)
	is(t, "Tree", e, api.OK)
	is(t, "Same", tree.Same(x, file("x")), true)
	// While the power is off it is open still, and tells what there is.
	off(t, s)
	is(t, "DB", s.DB(), b)
	if l := b.List(); !slices.Equal(l, []string{srcPath}) {
		t.Errorf("List = %v", l)
	}
	closed(t, s)
	closed(t, s)
	does(t, s, manage.Event{Kind: manage.Arm, N: 0}, manage.Reply{})
	is(t, "Up", s.Up(), false)
	is(t, "DB", s.DB(), nil)
	reopens(t, s)
	holds(t, s, srcPath)
	// It is no copy: what is done there is seen.
	_, e = realise.AddTree(s.DB(), "a", file("x"))
	is(t, "AddTree", e, api.OK)
	is(t, "List", len(s.DB().List()), 2)
	reopens(t, s)
	is(t, "List", len(s.DB().List()), 2)
}

// TestP22_1_Up: the power that goes off in what is done by DB is off, too.
func TestP22_1_Up(t *testing.T) {
	s := fresh(t, 60)
	does(t, s, manage.Event{Kind: manage.Arm, N: 1}, manage.Reply{})
	is(t, "Up", s.Up(), true)
	_, e := realise.AddTree(s.DB(), "a", file("x"))
	is(t, "AddTree", e, api.ErrCrash)
	is(t, "Up", s.Up(), false)
	refuses(t, s, of(manage.Eval, "1"), api.ErrCrash)
	reopens(t, s)
}

// TestP22_1_Nil: of none there is nothing.
func TestP22_1_Nil(t *testing.T) {
	var s *manage.Store
	is(t, "DB", s.DB(), nil)
	is(t, "Up", s.Up(), false)
	for kind := range 256 {
		for _, n := range []int{-1, 0, 1} {
			does(t, s, manage.Event{Kind: byte(kind), A: "1", N: n}, manage.Reply{E: api.ErrNone})
		}
	}
}

// TestP22_2_Kinds: the numbers of the kinds, and those that there aren't.
func TestP22_2_Kinds(t *testing.T) {
	for want, kind := range []byte{
		manage.Eval, manage.Make, manage.Build, manage.Tree, manage.Set, manage.Switch, manage.Back, manage.Drop,
		manage.Old, manage.Root, manage.Collect, manage.Export, manage.Import, manage.Verify, manage.Arm, manage.Crash,
	} {
		is(t, "a kind", int(kind), want)
	}
	s := fresh(t, 60)
	for kind := 16; kind < 256; kind++ {
		refuses(t, s, manage.Event{Kind: byte(kind), A: "1", N: 1}, api.ErrArg)
	}
	off(t, s)
	refuses(t, s, manage.Event{Kind: 16}, api.ErrArg)
	closed(t, s)
	does(t, s, manage.Event{Kind: 255, N: -1}, manage.Reply{E: api.ErrArg})
	reopens(t, s)
	holds(t, s)
}

func TestP22_2_Eval(t *testing.T) {
	s := fresh(t, 60)
	for _, c := range []struct {
		text string
		n    int
		want manage.Reply
	}{
		{"1 + 2 * 3", 6, manage.Reply{Text: "7"}},
		{"1 + 2 * 3", 5, manage.Reply{E: api.ErrFuel}},
		{"1", 0, manage.Reply{E: api.ErrFuel}},
		{"1", -1, manage.Reply{E: api.ErrArg}},
		{"1", api.MaxFuel, manage.Reply{Text: "1"}},
		{"1", api.MaxFuel + 1, manage.Reply{E: api.ErrArg}},
		{"1", math.MinInt, manage.Reply{E: api.ErrArg}},
		{"1 + )", 99, manage.Reply{E: api.ErrText, N: 4}},
		{"1 + )", -1, manage.Reply{E: api.ErrText, N: 4}},
		{"{ a = 1; a = 2; }", 99, manage.Reply{E: api.ErrExists, N: 9}},
		{"", 99, manage.Reply{E: api.ErrText}},
		{"throw \"x\"", 99, manage.Reply{E: api.ErrThrow}},
		{"[1 \"a b\" {}]", 99, manage.Reply{Text: `[1 "a b" {}]`}},
		{strings.Repeat(" ", api.MaxSource-1) + "1", 99, manage.Reply{Text: "1"}},
		{strings.Repeat(" ", api.MaxSource) + "1", 99, manage.Reply{E: api.ErrLong}},
		{aText + ".drvPath", fuel, manage.Reply{Text: `"` + aDrv + `"`}},
	} {
		does(t, s, numbered(manage.Eval, c.text, c.n), c.want)
	}
	// It keeps nothing.
	holds(t, s)
	is(t, "trees", len(tree.Paths(s.DB().FS().Tree())), 2)
}

func TestP22_2_Make(t *testing.T) {
	s := fresh(t, 100)
	for _, c := range []struct {
		text string
		n    int
		want manage.Reply
	}{
		{"1 + 1", 4, manage.Reply{Text: "2"}},
		{"1 + 1", 3, manage.Reply{E: api.ErrFuel}},
		{"1", -1, manage.Reply{E: api.ErrArg}},
		{"1 1 )", -1, manage.Reply{E: api.ErrText, N: 4}},
		{aText + ".foo", fuel, manage.Reply{E: api.ErrNone}},
		{aText + ".outPath + throw \"x\"", fuel, manage.Reply{E: api.ErrThrow}},
		{"[" + aText + " x]", fuel, manage.Reply{E: api.ErrName}},
		{"derivation { name = \"a\"; recipe = \"" + strings.Repeat("x", api.MaxText+1) + "\"; }", fuel, manage.Reply{E: api.ErrForm}},
	} {
		does(t, s, numbered(manage.Make, c.text, c.n), c.want)
		holds(t, s)
	}
	// What isn't needed isn't made.
	does(t, s, makes("let x = "+aText+"; in 3"), manage.Reply{Text: "3"})
	holds(t, s)
	for range 2 {
		does(t, s, makes(aText+".outPath"), manage.Reply{Text: `"` + aPath + `"`, List: []string{aDrv}})
		holds(t, s, aDrv)
		reopens(t, s)
	}
	d, e := realise.Get(s.DB(), aDrv)
	if e != api.OK || d.Name != "a" || d.Recipe != "write f x" || len(d.Drvs)+len(d.Sources) != 0 || d.Fixed != "" {
		t.Errorf("Get = %+v, %d", d, e)
	}
	does(t, s, makes("toString ["+bText+" "+aText+"]"), manage.Reply{Text: `"` + bPath + " " + aPath + `"`, List: []string{aDrv, bDrv}})
	done(t, s, adds("src", file("x")))
	does(t, s, makes(appText+".outPath"), manage.Reply{Text: `"` + appPath + `"`, List: []string{libDrv, appDrv}})
	holds(t, s, aDrv, bDrv, srcPath, libDrv, appDrv)
}

// TestP22_2_MakeOrder: at each time the first of those left, by their paths, that needs none of those left.
func TestP22_2_MakeOrder(t *testing.T) {
	dice := samples.Dice(5)
	mixed := 0
	for range 40 {
		// Each needs some of those ahead of it.
		var text strings.Builder
		text.WriteString("let ")
		n := 2 + dice.Roll(12)
		for i := range n {
			text.WriteString("d" + strconv.Itoa(i) + ` = derivation { name = "` + string(rune('a'+dice.Roll(3))) + `"; recipe = "write f ` + strconv.Itoa(i))
			for range dice.Roll(4) {
				if i > 0 {
					text.WriteString(" ${d" + strconv.Itoa(dice.Roll(i)) + "}")
				}
			}
			text.WriteString(`"; }; `)
		}
		text.WriteString("in toString [")
		for i := range n {
			text.WriteString(" d" + strconv.Itoa(i))
		}
		s := fresh(t, 300)
		l := done(t, s, makes(text.String()+" ]")).List
		is(t, "how many were made", len(l), n)
		holds(t, s, slices.Clone(l)...)
		left := slices.Sorted(slices.Values(l))
		for _, path := range l {
			i := slices.IndexFunc(left, func(other string) bool {
				d, e := realise.Get(s.DB(), other)
				is(t, "Get", e, api.OK)
				return !slices.ContainsFunc(d.Drvs, func(need string) bool { return slices.Contains(left, need) })
			})
			is(t, "the next one", path, left[i])
			if i > 0 {
				mixed++
			}
			left = slices.Delete(left, i, i+1)
		}
	}
	if mixed < 20 {
		t.Errorf("only %d times it wasn't the first", mixed)
	}
}

// TestP22_2_MakeErrors: of Add: those that were added stay, and are told.
func TestP22_2_MakeErrors(t *testing.T) {
	s := fresh(t, 100)
	// The source isn't there: of what it needs nothing is missed by the others.
	does(t, s, makes(libText), manage.Reply{E: api.ErrName})
	holds(t, s)
	does(t, s, makes("["+libText+" "+aText+"]"), manage.Reply{E: api.ErrName, List: []string{aDrv}})
	holds(t, s, aDrv)
	// bDrv is behind libDrv.
	does(t, s, makes("["+bText+" "+libText+"]"), manage.Reply{E: api.ErrName})
	does(t, s, makes("["+bText+" "+libText+" "+aText+" "+appText+"]"), manage.Reply{E: api.ErrName, List: []string{aDrv}})
	holds(t, s, aDrv)
	reopens(t, s)
	holds(t, s, aDrv)
	// No room for one of many.
	s = fresh(t, 20)
	var text strings.Builder
	for i := range 9 {
		text.WriteString(` (derivation { name = "a"; recipe = "write f ` + strconv.Itoa(i) + `"; })`)
	}
	r := s.Do(makes("[" + text.String() + "]"))
	if r.E != api.ErrFull || len(r.List) == 0 || len(r.List) > 8 || r.Text != "" || r.N != 0 || r.Data != nil {
		t.Fatalf("Make = %+v", r)
	}
	if !slices.IsSorted(r.List) {
		t.Errorf("List = %v", r.List)
	}
	holds(t, s, slices.Clone(r.List)...)
	reopens(t, s)
	holds(t, s, slices.Clone(r.List)...)
}

// TestP22_2_Example: Make(derivation of a), Build: its Out; Set(p, Out), Collect: a's derivation goes, its Out stays.
func TestP22_2_Example(t *testing.T) {
	s := fresh(t, 100)
	is(t, "List", done(t, s, makes(aText)).List[0], aDrv)
	does(t, s, of(manage.Build, aDrv), manage.Reply{Text: aPath, N: 1})
	does(t, s, about(manage.Set, "p", aPath), manage.Reply{N: 1})
	x, _ := s.DB().Info(aDrv)
	does(t, s, numbered(manage.Collect, "", -1), manage.Reply{List: []string{aDrv}, N: x.Size})
	for range 2 {
		holds(t, s, aPath)
		y, e := s.DB().Tree(aPath)
		is(t, "Tree", e, api.OK)
		is(t, "Same", tree.Same(y, dir("f", file("x"))), true)
		reopens(t, s)
	}
}

func TestP22_2_Build(t *testing.T) {
	s := fresh(t, 200)
	done(t, s, adds("src", file("x")))
	done(t, s, makes(appText))
	does(t, s, of(manage.Build, appDrv), manage.Reply{Text: appPath, N: 2})
	for range 2 {
		holds(t, s, srcPath, libDrv, libPath, appDrv, appPath)
		x, e := s.DB().Info(appPath)
		if e != api.OK || x.From != appDrv || !slices.Equal(x.Refs, []string{libPath}) {
			t.Errorf("Info = %+v, %d", x, e)
		}
		does(t, s, of(manage.Build, appDrv), manage.Reply{Text: appPath})
		does(t, s, of(manage.Build, libDrv), manage.Reply{Text: libPath})
		reopens(t, s)
	}
	for path, want := range map[string]api.Errno{"": api.ErrText, "x": api.ErrText, srcPath: api.ErrText, appPath: api.ErrText, noPath: api.ErrText, noDrv: api.ErrNone} {
		refuses(t, s, of(manage.Build, path), want)
	}
	// How many were done stands beside an error, and these stay.
	bad := `derivation { name = "bad"; recipe = "write f ${` + aText + `}\nfail x"; }`
	l := done(t, s, makes(bad)).List
	does(t, s, of(manage.Build, l[1]), manage.Reply{E: api.ErrThrow, N: 1})
	holds(t, s, srcPath, libDrv, libPath, appDrv, appPath, aDrv, aPath, l[1])
	does(t, s, of(manage.Build, l[1]), manage.Reply{E: api.ErrThrow})
}

func TestP22_2_Tree(t *testing.T) {
	s := fresh(t, 100)
	for range 2 {
		does(t, s, adds("src", file("x")), manage.Reply{Text: srcPath})
		holds(t, s, srcPath)
		reopens(t, s)
	}
	x, _ := s.DB().Info(srcPath)
	if x.From != "" || len(x.Refs) > 0 || x.Size != 120 {
		t.Errorf("Info = %+v", x)
	}
	was := file("x")
	for what, wrong := range samples.Wrong() {
		if r := s.Do(adds("src", wrong)); !same(r, manage.Reply{E: api.ErrForm}) {
			t.Errorf("%s: %+v", what, r)
		}
	}
	for _, name := range []string{"", ".x", "a b", "a/b", strings.Repeat("n", api.MaxName+1)} {
		refuses(t, s, adds(name, was), api.ErrText)
	}
	refuses(t, s, adds("big", file(strings.Repeat("x", 20000))), api.ErrFull)
	refuses(t, s, adds("big", file(strings.Repeat("x", api.MaxData))), api.ErrLong)
	done(t, s, adds(strings.Repeat("n", api.MaxName), dir("a", link("b"))))
}

func TestP22_2_Profiles(t *testing.T) {
	s := fresh(t, 100)
	one := done(t, s, adds("one", file("1"))).Text
	two := done(t, s, adds("two", file("2"))).Text
	for _, c := range []struct {
		v    manage.Event
		want manage.Reply
	}{
		{of(manage.Back, "p"), manage.Reply{E: api.ErrNone}},
		{of(manage.Old, "p"), manage.Reply{E: api.ErrNone}},
		{numbered(manage.Switch, "p", 1), manage.Reply{E: api.ErrNone}},
		{numbered(manage.Drop, "p", 1), manage.Reply{E: api.ErrNone}},
		{about(manage.Set, "", one), manage.Reply{E: api.ErrText}},
		{about(manage.Set, "p", noPath), manage.Reply{E: api.ErrName}},
		{about(manage.Set, one, "p"), manage.Reply{E: api.ErrName}},
		{about(manage.Set, "p", one), manage.Reply{N: 1}},
		{about(manage.Set, "p", two), manage.Reply{N: 2}},
		{about(manage.Set, "q", two), manage.Reply{N: 1}},
		{about(manage.Set, "p", one), manage.Reply{N: 3}},
		{of(manage.Back, "p"), manage.Reply{N: 2}},
		{of(manage.Back, "p"), manage.Reply{N: 1}},
		{of(manage.Back, "p"), manage.Reply{E: api.ErrName}},
		{numbered(manage.Switch, "p", 3), manage.Reply{}},
		{numbered(manage.Switch, "p", 4), manage.Reply{E: api.ErrName}},
		{numbered(manage.Switch, "p", -1), manage.Reply{E: api.ErrName}},
		{numbered(manage.Drop, "p", 3), manage.Reply{E: api.ErrBusy}},
		{numbered(manage.Drop, "p", 0), manage.Reply{E: api.ErrName}},
		{numbered(manage.Drop, "p", 2), manage.Reply{}},
		{of(manage.Back, "p"), manage.Reply{N: 1}},
		{about(manage.Set, "p", two), manage.Reply{N: 4}},
		{of(manage.Old, "p"), manage.Reply{N: 2}},
		{of(manage.Old, "p"), manage.Reply{}},
		{numbered(manage.Switch, "p", 1), manage.Reply{E: api.ErrName}},
	} {
		does(t, s, c.v, c.want)
		reopens(t, s)
	}
	l, now, e := profile.List(s.DB(), "p")
	if e != api.OK || now != 4 || len(l) != 1 || l[0] != (profile.Gen{N: 4, Path: two}) {
		t.Errorf("List = %v, %d, %d", l, now, e)
	}
}

func TestP22_2_Root(t *testing.T) {
	s := fresh(t, 100)
	one := done(t, s, adds("one", file("1"))).Text
	two := done(t, s, adds("two", file("2"))).Text
	roots := func(want ...string) {
		t.Helper()
		if l := profile.Roots(s.DB()); !slices.Equal(l, want) {
			t.Fatalf("Roots = %v", l)
		}
	}
	refuses(t, s, about(manage.Root, "r", ""), api.ErrNone)
	refuses(t, s, about(manage.Root, "r", noPath), api.ErrName)
	refuses(t, s, about(manage.Root, one, "r"), api.ErrName)
	refuses(t, s, about(manage.Root, "", one), api.ErrText)
	does(t, s, about(manage.Root, "r", one), manage.Reply{})
	roots(one)
	does(t, s, about(manage.Root, "r", two), manage.Reply{})
	roots(two)
	reopens(t, s)
	roots(two)
	does(t, s, about(manage.Root, "r", ""), manage.Reply{})
	roots()
}

// TestP22_2_Collect: the words that say what is kept, and how many bytes go.
func TestP22_2_Collect(t *testing.T) {
	for _, c := range []struct {
		word, root string
		stay       []string
	}{
		{"", libPath, []string{libPath}},
		{"none", libPath, []string{libPath}},
		{"Both", libPath, []string{libPath}},
		{"both ", libPath, []string{libPath}},
		{"drvs", libPath, []string{libPath, libDrv, srcPath}},
		{"outs", libPath, []string{libPath}},
		{"both", libPath, []string{libPath, libDrv, srcPath}},
		{"", appDrv, []string{appDrv, libDrv, srcPath}},
		{"drvs", appDrv, []string{appDrv, libDrv, srcPath}},
		{"outs", appDrv, []string{appDrv, libDrv, srcPath, libPath, appPath}},
		{"both", appPath, []string{appDrv, libDrv, srcPath, libPath, appPath}},
		{"drvs", appPath, []string{appPath, libPath, appDrv, libDrv, srcPath}},
		{"drvs", "", nil},
		{"both", "", nil},
	} {
		s := fresh(t, 200)
		done(t, s, adds("src", file("x")))
		done(t, s, makes("["+appText+" "+bText+"]"))
		done(t, s, of(manage.Build, appDrv))
		if c.root != "" {
			done(t, s, about(manage.Root, "r", c.root))
		}
		var gone []string
		bytes := 0
		for _, path := range s.DB().List() {
			if !slices.Contains(c.stay, path) {
				x, _ := s.DB().Info(path)
				gone, bytes = append(gone, path), bytes+x.Size
			}
		}
		r := done(t, s, numbered(manage.Collect, c.word, -1))
		slices.Sort(r.List)
		if !slices.Equal(r.List, gone) || r.N != bytes {
			t.Errorf("Collect(%q) of %s = %v, %d, and not %v, %d", c.word, c.root, r.List, r.N, gone, bytes)
		}
		holds(t, s, slices.Clone(c.stay)...)
		does(t, s, numbered(manage.Collect, c.word, -1), manage.Reply{})
		reopens(t, s)
		holds(t, s, slices.Clone(c.stay)...)
	}
}

// TestP22_2_CollectLimit: N is the limit.
func TestP22_2_CollectLimit(t *testing.T) {
	s := fresh(t, 100)
	one := done(t, s, adds("src", file("x"))).Text
	two := done(t, s, adds("src", file("y"))).Text
	size := 120
	first, last := max(one, two), min(one, two)
	does(t, s, numbered(manage.Collect, "", 0), manage.Reply{})
	holds(t, s, one, two)
	does(t, s, numbered(manage.Collect, "", 1), manage.Reply{List: []string{first}, N: size})
	holds(t, s, last)
	done(t, s, adds("src", file("x")))
	done(t, s, adds("src", file("y")))
	does(t, s, numbered(manage.Collect, "", size), manage.Reply{List: []string{first}, N: size})
	done(t, s, adds("src", file("x")))
	done(t, s, adds("src", file("y")))
	does(t, s, numbered(manage.Collect, "", size+1), manage.Reply{List: []string{first, last}, N: 2 * size})
	holds(t, s)
}

func TestP22_2_ExportImport(t *testing.T) {
	s, other := fresh(t, 200), fresh(t, 200)
	done(t, s, adds("src", file("x")))
	done(t, s, makes("["+appText+" "+bText+"]"))
	done(t, s, of(manage.Build, appDrv))
	r := done(t, s, of(manage.Export, appPath))
	p, e := pack.Export(s.DB(), []string{appPath})
	if e != api.OK || !same(r, manage.Reply{Data: p}) {
		t.Fatalf("Export = %+v", r)
	}
	// Their last 32 bytes, as another program has found them.
	for path, want := range map[string]string{
		appPath: "4b2438d6b00ab225ce7650e396e42d309bda2fcfe56e571ab10f7a37236ceeba",
		appDrv:  "c6c6fed72b5d50e940a248490110d4034f9c13224523a2a675b8b03894c89708",
	} {
		p := done(t, s, of(manage.Export, path)).Data
		is(t, "the pack of "+path, base.Hex(p[len(p)-32:]), want)
	}
	for range 2 {
		does(t, other, manage.Event{Kind: manage.Import, Data: r.Data}, manage.Reply{List: []string{libPath, appPath}})
		holds(t, other, libPath, appPath)
		reopens(t, other)
	}
	for _, path := range []string{libPath, appPath} {
		x, _ := s.DB().Tree(path)
		y, e := other.DB().Tree(path)
		is(t, "Tree", e, api.OK)
		is(t, "Same", tree.Same(x, y), true)
	}
	refuses(t, s, of(manage.Export, ""), api.ErrText)
	refuses(t, s, of(manage.Export, appPath+" "+libPath), api.ErrText)
	refuses(t, other, of(manage.Export, appDrv), api.ErrNone)
	refuses(t, other, manage.Event{Kind: manage.Import}, api.ErrForm)
	refuses(t, other, manage.Event{Kind: manage.Import, Data: r.Data[1:]}, api.ErrSum)
	refuses(t, other, manage.Event{Kind: manage.Import, Data: r.Data[:31]}, api.ErrForm)
	refuses(t, fresh(t, 10), manage.Event{Kind: manage.Import, Data: r.Data}, api.ErrFull)
	none, _ := pack.Write(nil, nil)
	does(t, other, manage.Event{Kind: manage.Import, Data: none}, manage.Reply{})
}

// TestP22_2_Verify: what others have changed in the tree is told.
func TestP22_2_Verify(t *testing.T) {
	s := fresh(t, 100)
	one := done(t, s, adds("one", file("1"))).Text
	two := done(t, s, adds("two", file("2"))).Text
	holds(t, s, one, two)
	is(t, "Do", s.DB().FS().Do([]api.Edit{{Kind: api.OPut, Path: "store/" + one, Tree: file("3")}}), api.OK)
	does(t, s, manage.Event{Kind: manage.Verify, A: two}, manage.Reply{List: []string{one}})
	is(t, "Do", s.DB().FS().Do([]api.Edit{{Kind: api.ODrop, Path: "store/" + two}}), api.OK)
	reopens(t, s)
	does(t, s, manage.Event{Kind: manage.Verify}, manage.Reply{List: slices.Sorted(slices.Values([]string{one, two}))})
}

// TestP22_2_Arm: the power goes off in the N-th operation; 0: it doesn't.
func TestP22_2_Arm(t *testing.T) {
	s := fresh(t, 100)
	refuses(t, s, manage.Event{Kind: manage.Arm, N: -1}, api.ErrArg)
	refuses(t, s, manage.Event{Kind: manage.Arm, N: math.MinInt}, api.ErrArg)
	does(t, s, manage.Event{Kind: manage.Arm, N: 1}, manage.Reply{})
	does(t, s, manage.Event{Kind: manage.Arm}, manage.Reply{})
	src := done(t, s, adds("src", file("x"))).Text
	does(t, s, manage.Event{Kind: manage.Arm, N: 1}, manage.Reply{})
	// What needs no operation of the device is done.
	does(t, s, of(manage.Eval, "1"), manage.Reply{E: api.ErrFuel})
	does(t, s, adds("src", file("x")), manage.Reply{Text: src})
	done(t, s, of(manage.Export, src))
	is(t, "Up", s.Up(), true)
	// Armed anew: it is counted from here on.
	does(t, s, manage.Event{Kind: manage.Arm, N: math.MaxInt}, manage.Reply{})
	done(t, s, adds("one", file("1")))
	off(t, s)
	// While it is off, too: behind a Crash nothing of that counts.
	does(t, s, manage.Event{Kind: manage.Arm, N: 1}, manage.Reply{})
	does(t, s, manage.Event{Kind: manage.Arm, N: -1}, manage.Reply{E: api.ErrArg})
	reopens(t, s)
	done(t, s, adds("two", file("2")))
	is(t, "List", len(s.DB().List()), 3)
}

// TestP22_2_Crash: its number arms, and what is below 0 does nothing at all.
func TestP22_2_Crash(t *testing.T) {
	s := fresh(t, 100)
	src := done(t, s, adds("src", file("x"))).Text
	b := s.DB()
	for _, n := range []int{-1, math.MinInt} {
		refuses(t, s, manage.Event{Kind: manage.Crash, N: n}, api.ErrArg)
		is(t, "DB", s.DB(), b)
	}
	off(t, s)
	refuses(t, s, manage.Event{Kind: manage.Crash, N: -1}, api.ErrArg)
	is(t, "DB", s.DB(), b)
	closed(t, s)
	does(t, s, manage.Event{Kind: manage.Crash, N: -1}, manage.Reply{E: api.ErrArg})
	is(t, "DB", s.DB(), nil)
	for n := 1; ; n++ {
		if r := s.Do(manage.Event{Kind: manage.Crash, N: n, Torn: -1}); r.E == api.OK {
			// It is armed: the power goes off in an operation of what comes next.
			is(t, "Up", s.Up(), true)
			holds(t, s, src)
			does(t, s, adds("more", file(strings.Repeat("y", 999))), manage.Reply{E: api.ErrCrash})
			break
		} else if n > 100 || !same(r, manage.Reply{E: api.ErrCrash}) || s.DB() != nil || s.Up() {
			t.Fatalf("Crash with %d = %+v", n, r)
		}
	}
	for _, keep := range [][]bool{nil, {}, {true}, make([]bool, 500)} {
		for _, torn := range []int{-1, 0, 1, math.MaxInt, math.MinInt} {
			for _, cut := range []int{-1, 0, 1, 255, 256, math.MaxInt, math.MinInt} {
				does(t, s, manage.Event{Kind: manage.Crash, Keep: keep, Torn: torn, Cut: cut}, manage.Reply{})
				is(t, "Is", s.DB().Is(src), true)
			}
		}
	}
	holds(t, s, src)
}

// TestP22_2_CrashKeeps: which writes are done, and which is torn, is as Keep, Torn and Cut say.
func TestP22_2_CrashKeeps(t *testing.T) {
	all := slices.Repeat([]bool{true}, 99)
	for _, c := range []struct {
		event manage.Event
		there bool
	}{
		{manage.Event{Kind: manage.Crash, Torn: -1}, false},
		{manage.Event{Kind: manage.Crash, Torn: -1, Keep: all}, true},
		{manage.Event{Kind: manage.Crash, Torn: 0, Keep: all}, false},
		{manage.Event{Kind: manage.Crash, Torn: 0, Cut: 64, Keep: all}, false},
		{manage.Event{Kind: manage.Crash, Torn: 0, Cut: api.Sector, Keep: all}, true},
		{manage.Event{Kind: manage.Crash, Torn: 99, Keep: all}, true},
	} {
		// The power goes off in the last write of a tree, which is not durable then, but on its way as all others.
		written := 0
		for n := 1; written == 0; n++ {
			s := fresh(t, 100)
			does(t, s, manage.Event{Kind: manage.Arm, N: n}, manage.Reply{})
			s.Do(adds("src", dir("f", file(strings.Repeat("x", 700)))))
			done(t, s, manage.Event{Kind: manage.Crash, Keep: all, Torn: -1})
			if len(s.DB().List()) == 1 {
				written = n
			}
		}
		s := fresh(t, 100)
		does(t, s, manage.Event{Kind: manage.Arm, N: written}, manage.Reply{})
		does(t, s, adds("src", dir("f", file(strings.Repeat("x", 700)))), manage.Reply{E: api.ErrCrash})
		// Behind the write that Open has left on its way stand those of the tree.
		v := c.event
		if v.Torn >= 0 {
			v.Torn++
		}
		done(t, s, v)
		is(t, "there", len(s.DB().List()) == 1, c.there)
	}
}

// TestP22_2_NotUp: all but Arm and Crash is ErrCrash, whatever else applies, and nothing is done.
func TestP22_2_NotUp(t *testing.T) {
	s := fresh(t, 100)
	src := done(t, s, adds("src", file("x"))).Text
	p := done(t, s, of(manage.Export, src)).Data
	events := []manage.Event{
		numbered(manage.Eval, "1", fuel), numbered(manage.Eval, ")", -1), makes("1"), makes("1 1 )"), makes(aText),
		of(manage.Build, aDrv), of(manage.Build, ""), adds("src", file("x")), adds("", api.Tree{}),
		about(manage.Set, "p", src), about(manage.Set, "", ""), numbered(manage.Switch, "p", 1), of(manage.Back, "p"),
		numbered(manage.Drop, "p", 1), of(manage.Old, "p"), about(manage.Root, "r", src), about(manage.Root, "r", ""),
		numbered(manage.Collect, "", -1), numbered(manage.Collect, "", 0), of(manage.Export, src), of(manage.Export, ""),
		{Kind: manage.Import, Data: p}, {Kind: manage.Import}, {Kind: manage.Verify},
	}
	off(t, s)
	for _, v := range events {
		refuses(t, s, v, api.ErrCrash)
	}
	closed(t, s)
	for _, v := range events {
		does(t, s, v, manage.Reply{E: api.ErrCrash})
		is(t, "DB", s.DB(), nil)
	}
	reopens(t, s)
	holds(t, s, src)
}

// TestP22_2_PowerGoesOff: each event that does something answers ErrCrash when the power goes off in it.
func TestP22_2_PowerGoesOff(t *testing.T) {
	src := fresh(t, 100)
	path := done(t, src, adds("more", file("more"))).Text
	p := done(t, src, of(manage.Export, path)).Data
	for _, v := range []manage.Event{
		makes(bText), of(manage.Build, aDrv), adds("a", file("x")), about(manage.Set, "p", srcPath), numbered(manage.Switch, "p", 1),
		of(manage.Back, "p"), numbered(manage.Drop, "p", 1), of(manage.Old, "p"), about(manage.Root, "r", srcPath), about(manage.Root, "q", ""),
		numbered(manage.Collect, "", -1), {Kind: manage.Import, Data: p},
	} {
		s := fresh(t, 100)
		done(t, s, adds("src", file("x")))
		done(t, s, makes(aText))
		done(t, s, about(manage.Set, "p", srcPath))
		done(t, s, about(manage.Set, "p", srcPath))
		done(t, s, about(manage.Root, "q", srcPath))
		does(t, s, manage.Event{Kind: manage.Arm, N: 1}, manage.Reply{})
		does(t, s, v, manage.Reply{E: api.ErrCrash})
		is(t, "Up", s.Up(), false)
		does(t, s, of(manage.Eval, "1"), manage.Reply{E: api.ErrCrash})
		reopens(t, s)
		holds(t, s, srcPath, aDrv)
		if r := s.Do(v); r.E != api.OK {
			t.Errorf("behind a fall Do(%+v) = %+v", v, r)
		}
	}
}

// TestP1_Anything: no event panics, whatever it has, and each ends.
func TestP1_Anything(t *testing.T) {
	texts := []string{"", "p", "r", "x", srcPath, aDrv, noPath, noDrv, "1", ")", aText, strings.Repeat("(", 9000), "let x = x; in x", "\x00", "\xff/..", "drvs", strings.Repeat("n", 5000)}
	numbers := []int{math.MinInt, -1, 0, 1, 2, 99, fuel, math.MaxInt}
	trees := []api.Tree{{}, file("x"), dir("a", file("b")), samples.Deep(30, file("")), samples.Wide(5000)}
	for _, wrong := range samples.Wrong() {
		trees = append(trees, wrong)
	}
	dice := samples.Dice(1)
	zero := &manage.Store{}
	s := fresh(t, 80)
	for range 6000 {
		v := manage.Event{
			Kind: byte(dice.Roll(18)), A: texts[dice.Roll(len(texts))], B: texts[dice.Roll(len(texts))], N: numbers[dice.Roll(len(numbers))],
			Data: dice.Bytes(dice.Roll(80)), Tree: trees[dice.Roll(len(trees))],
			Keep: make([]bool, dice.Roll(9)), Torn: numbers[dice.Roll(len(numbers))], Cut: numbers[dice.Roll(len(numbers))],
		}
		if dice.Roll(8) == 0 {
			v = manage.Event{Kind: manage.Crash}
		}
		s.Do(v)
		zero.Do(v)
		zero.Up()
		zero.DB()
		is(t, "Up", s.Up() && s.DB() == nil, false)
	}
	reopens(t, s)
	does(t, s, manage.Event{Kind: manage.Verify}, manage.Reply{})
}

// TestP2_KeepsNothing: what an event has stays as it is, and isn't kept; an answer is new memory.
func TestP2_KeepsNothing(t *testing.T) {
	s := fresh(t, 100)
	was := dir("f", file("x"), "g", dir("h", samples.Tool("y"), "l", link("z")))
	x := samples.Roomy(was)
	path := done(t, s, adds("t", x)).Text
	is(t, "Intact", samples.Intact(x, was), true)
	samples.Spoil(x)
	y, e := s.DB().Tree(path)
	is(t, "Tree", e, api.OK)
	is(t, "Same", tree.Same(y, was), true)

	v := makes("[" + aText + " " + bText + "]")
	l := done(t, s, v).List
	spoil(l)
	does(t, s, v, done(t, s, v))
	does(t, s, of(manage.Build, aDrv), manage.Reply{Text: aPath, N: 1})
	holds(t, s, path, aDrv, aPath, bDrv)

	p := done(t, s, of(manage.Export, path)).Data
	q := done(t, s, of(manage.Export, path)).Data
	clear(p[:cap(p)])
	room := append(slices.Clone(q), "spare"...)
	other := fresh(t, 100)
	for range 2 {
		l := done(t, other, manage.Event{Kind: manage.Import, Data: room[:len(q)]}).List
		is(t, "Data", string(room), string(q)+"spare")
		spoil(l)
	}
	clear(room)
	holds(t, other, path)

	keep := append(slices.Repeat([]bool{true}, 5), false, true)
	off(t, s)
	done(t, s, manage.Event{Kind: manage.Crash, Keep: keep[:5], Torn: -1})
	if !slices.Equal(keep, append(slices.Repeat([]bool{true}, 5), false, true)) {
		t.Errorf("Keep is %v now", keep)
	}
	l = done(t, s, numbered(manage.Collect, "", -1)).List
	spoil(l)
	holds(t, s)
}

// spoil writes over a list, and over its spare room.
func spoil(l []string) {
	for i := range l[:cap(l)] {
		l[:cap(l)][i] = "#"
	}
}

// TestP4_All: of all that is valid the tree has its digest, and what it refers to is valid.
func TestP4_All(t *testing.T) {
	s := fresh(t, 200)
	done(t, s, adds("src", file("x")))
	done(t, s, makes(appText))
	done(t, s, of(manage.Build, appDrv))
	for _, path := range s.DB().List() {
		x, _ := s.DB().Info(path)
		y, _ := s.DB().Tree(path)
		z, e := valid.Make(path, y, x.Refs, x.From)
		if e != api.OK || z.Sum != x.Sum || z.Size != x.Size || !slices.Equal(s.DB().Closure(x.Refs), closure(s.DB(), x.Refs)) {
			t.Errorf("%s isn't what it says", path)
		}
		for _, ref := range x.Refs {
			is(t, ref, s.DB().Is(ref), true)
		}
	}
}

// closure: what some paths refer to, and they themselves, rising.
func closure(b *valid.DB, paths []string) []string {
	var l []string
	for todo := slices.Clone(paths); len(todo) > 0; todo = todo[1:] {
		if !slices.Contains(l, todo[0]) {
			x, _ := b.Info(todo[0])
			l, todo = append(l, todo[0]), append(todo, x.Refs...)
		}
	}
	slices.Sort(l)
	return l
}

// TestP5_AsEval: what an expression is, and in how many steps, is what layer 11 says.
func TestP5_AsEval(t *testing.T) {
	s := fresh(t, 200)
	done(t, s, adds("src", file("x")))
	for _, text := range []string{
		"let f = n: if n == 0 then 1 else n * f (n - 1); in f 10", "with { a = 1; }; [a (a + 1)]", "{ a = \"x\" + \"y\"; b = x: x; }",
		"rec { a = b; b = a; }.a", "1 1", "[1 2 3].a or 4", "{ a, b ? a }: b", "(" + appText + ").outPath", "throw \"x\"", "{ a = ",
	} {
		for n := range 150 {
			x, place, e := eval.Text(text, n)
			want := manage.Reply{E: e, Text: x.Text, N: place}
			does(t, s, numbered(manage.Eval, text, n), want)
			for _, d := range line(x.Made) {
				path, _ := samples.DrvFile(d)
				want.List = append(want.List, path)
			}
			does(t, s, numbered(manage.Make, text, n), want)
		}
	}
}

// TestP6_Formula: a derivation's path, and what it makes, are the same whatever else a store has.
func TestP6_Formula(t *testing.T) {
	empty, full := fresh(t, 200), fresh(t, 400)
	for i := range 20 {
		path := done(t, full, adds("n"+strconv.Itoa(i), file(strings.Repeat("x", i)))).Text
		done(t, full, about(manage.Set, "p", path))
	}
	done(t, full, makes("["+aText+" "+bText+"]"))
	done(t, full, of(manage.Build, bDrv))
	for _, s := range []*manage.Store{empty, full} {
		done(t, s, adds("src", file("x")))
		is(t, "Make", strings.Join(done(t, s, makes(appText)).List, " "), libDrv+" "+appDrv)
		does(t, s, of(manage.Build, appDrv), manage.Reply{Text: appPath, N: 2})
	}
	for _, path := range []string{srcPath, libDrv, libPath, appDrv, appPath} {
		x, _ := empty.DB().Tree(path)
		y, e := full.DB().Tree(path)
		is(t, "Tree", e, api.OK)
		is(t, "Same", tree.Same(x, y), true)
		is(t, "Export", string(done(t, empty, of(manage.Export, path)).Data), string(done(t, full, of(manage.Export, path)).Data))
	}
}

// TestP7_RoomComesBack: what is kept stays, all else goes, and leaves its room, however often that is, and whenever the power goes off.
func TestP7_RoomComesBack(t *testing.T) {
	s := fresh(t, 60)
	done(t, s, adds("src", file("x")))
	done(t, s, about(manage.Root, "r", srcPath))
	kept := []string{srcPath}
	size := func(path string) int {
		x, e := s.DB().Info(path)
		is(t, "Info", e, api.OK)
		return x.Size
	}
	for i := range 60 {
		text := `derivation { name = "n"; recipe = "write f ` + strings.Repeat("x", 500) + strconv.Itoa(100+i) + `"; }`
		path := done(t, s, makes(text)).List[0]
		out := done(t, s, of(manage.Build, path)).Text
		done(t, s, about(manage.Set, "p", out))
		is(t, "Old", done(t, s, of(manage.Old, "p")).N, min(i, 1))
		holds(t, s, append([]string{path, out}, kept...)...)
		bytes := size(path)
		for _, last := range kept[1:] {
			bytes += size(last)
		}
		r := done(t, s, numbered(manage.Collect, "", -1))
		is(t, "N", r.N, bytes)
		is(t, "List", len(r.List), len(kept))
		kept = []string{srcPath, out}
		holds(t, s, slices.Clone(kept)...)
		if i%5 == 0 {
			reopens(t, s)
			holds(t, s, slices.Clone(kept)...)
		}
	}
}

// TestP8_All: what is exported arrives, and nothing else does.
func TestP8_All(t *testing.T) {
	s, other := fresh(t, 200), fresh(t, 200)
	done(t, s, adds("src", file("x")))
	done(t, s, makes("["+appText+" "+bText+"]"))
	done(t, s, of(manage.Build, appDrv))
	done(t, s, about(manage.Set, "p", appPath))
	for path, closure := range map[string][]string{
		srcPath: {srcPath}, libDrv: {srcPath, libDrv}, libPath: {libPath}, appDrv: {srcPath, libDrv, appDrv}, appPath: {libPath, appPath}, bDrv: {bDrv},
	} {
		p := done(t, s, of(manage.Export, path)).Data
		does(t, other, manage.Event{Kind: manage.Import, Data: p}, manage.Reply{List: closure})
		holds(t, other, slices.Clone(closure)...)
		for i := range len(p) {
			wrong := slices.Clone(p)
			wrong[i] ^= 1 << (i % 8)
			refuses(t, other, manage.Event{Kind: manage.Import, Data: wrong}, api.ErrSum)
		}
		for _, x := range closure {
			y, _ := s.DB().Tree(x)
			z, e := other.DB().Tree(x)
			is(t, "Tree", e, api.OK)
			is(t, "Same", tree.Same(y, z), true)
		}
		// Nobody keeps it there.
		is(t, "Collect", len(done(t, other, numbered(manage.Collect, "both", -1)).List), len(closure))
		holds(t, other)
	}
}
