package drv_test

import (
	"bytes"
	"reflect"
	"slices"
	"strings"
	"testing"

	"staddle/api"
	"staddle/base"
	"staddle/drv"
	"staddle/hash"
	"staddle/naming"
	"staddle/samples"
)

// noughts is the signs of a digest of noughts, low that of the next greater path.
const (
	noughts = "00000000000000000000000000000000"
	low     = "00000000000000000000000000000001"
	digits  = "00000000000000000000000000000000000000000000000000000000000000ff"
)

// paths is n paths that rise, the names of all ending in the same.
func paths(n int, end string) []string {
	var l []string
	for i := range n {
		p, _ := naming.Path([20]byte{19: byte(8 * (i % 30)), 18: byte(i / 30)}, "n"+end)
		l = append(l, p)
	}
	slices.Sort(l)
	return l
}

// some: a derivation that has something of all.
func some() api.Drv {
	return api.Drv{Name: "some-1.0", Drvs: paths(3, drv.Ext), Sources: paths(4, ""), Recipe: "write f \"a\tb\\\"\\\\\"\n\nfail x", Fixed: digits}
}

// anyDrv: a derivation that is right.
func anyDrv(dice *samples.Dice) api.Drv {
	d := api.Drv{Name: "n" + strings.Repeat("x", dice.Roll(api.MaxName-len(drv.Ext))), Recipe: anyText(dice)}
	for range dice.Roll(4) {
		d.Drvs = append(d.Drvs, anyPath(dice, drv.Ext))
	}
	for range dice.Roll(4) {
		d.Sources = append(d.Sources, anyPath(dice, ""))
	}
	if dice.Roll(3) == 0 {
		d.Fixed = base.Hex(dice.Bytes(32))
	}
	slices.Sort(d.Drvs)
	slices.Sort(d.Sources)
	return d
}

// anyPath: a path whose name ends in something.
func anyPath(dice *samples.Dice, end string) string {
	p, _ := naming.Path([20]byte(dice.Bytes(20)), "n"+strings.Repeat("-", dice.Roll(api.MaxName-len(end)))+end)
	return p
}

// anyText: a text with much that has to be written by another sign.
func anyText(dice *samples.Dice) string {
	const often = "\\\"\n\tnt x\r\x00\xff$[],()"
	p := dice.Bytes(dice.Roll(40))
	for i := range p {
		p[i] = often[int(p[i])%len(often)]
	}
	return string(p)
}

// sums is n digests that look like nothing.
func sums(dice *samples.Dice, n int) [][32]byte {
	var l [][32]byte
	for range n {
		l = append(l, [32]byte(dice.Bytes(32)))
	}
	return l
}

func TestP10_1_IsPath(t *testing.T) {
	if drv.Ext != ".drv" {
		t.Errorf("Ext = %s", drv.Ext)
	}
	for s, ok := range map[string]bool{
		noughts + "-a.drv":                               true,
		noughts + "-a.drv.drv":                           true,
		noughts + "-+.drv":                               true,
		noughts + "-a..drv":                              true,
		"zyxwvsrqpnmlkjihgfdcba9876543210-hello-2.1.drv": true,
		noughts + "-" + strings.Repeat("n", 36) + ".drv": true,
		noughts + "-" + strings.Repeat("n", 37) + ".drv": false,
		noughts + "-.drv":                                false,
		noughts + "-drv":                                 false,
		noughts + "-adrv":                                false,
		noughts + "-a.drV":                               false,
		noughts + "-a.dr":                                false,
		noughts + "-a.drv.":                              false,
		noughts + "-a.drvx":                              false,
		noughts + "-a":                                   false,
		noughts + "-a.drv\n":                             false,
		noughts + "-a.drv\x00":                           false,
		noughts + "-a b.drv":                             false,
		noughts + "-" + noughts + "-a.drv":               true,
		noughts + "a.drv":                                false,
		noughts + "_a.drv":                               false,
		noughts[1:] + "-a.drv":                           false,
		"e" + noughts[1:] + "-a.drv":                     false,
		"0" + noughts + "-a.drv":                         false,
		"/staddle/" + noughts + "-a.drv":                 false,
		noughts + "-a.drv/x":                             false,
		noughts + ".drv":                                 false,
		"a.drv":                                          false,
		".drv":                                           false,
		"":                                               false,
		strings.Repeat("0", 100000) + ".drv":             false,
		noughts + "-" + strings.Repeat("n", 100000) + ".drv":      false,
		noughts + "-" + strings.Repeat(".drv", 10):                false,
		noughts + "-x" + strings.Repeat(".drv", 9):                true,
		noughts + "-x" + strings.Repeat(".drv", 10):               false,
		noughts + "-xxxx" + strings.Repeat(".drv", 9):             true,
		noughts + "-xxxxx" + strings.Repeat(".drv", 9):            false,
		strings.ToUpper("zyxwvsrqpnmlkjihgfdcba98765") + "-a.drv": false,
	} {
		if drv.IsPath(s) != ok {
			t.Errorf("IsPath(%.100q) = %v", s, !ok)
		}
	}
}

// TestP10_1_IsPathOfAnyName holds IsPath against layer 6, at names with each byte in each place.
func TestP10_1_IsPathOfAnyName(t *testing.T) {
	for b := range 256 {
		for i := range len("nnn.drv") {
			name := []byte("nnn.drv")
			name[i] = byte(b)
			s := noughts + "-" + string(name)
			if want := naming.Is(s) && strings.HasSuffix(s, ".drv"); drv.IsPath(s) != want {
				t.Errorf("IsPath(%q) = %v", s, !want)
			}
		}
	}
}

// changed: a derivation behind a change.
func changed(change func(d *api.Drv)) api.Drv {
	d := some()
	change(&d)
	return d
}

// rightOnes is derivations at the edges of the form.
func rightOnes() map[string]api.Drv {
	return map[string]api.Drv{
		"a with x":             {Name: "a", Recipe: "x"},
		"a name alone":         {Name: "a"},
		"some":                 some(),
		"a name of 36":         changed(func(d *api.Drv) { d.Name = strings.Repeat("n", api.MaxName-4) }),
		"a name with all":      changed(func(d *api.Drv) { d.Name = "aZ09+-_?=." }),
		"drv as name":          changed(func(d *api.Drv) { d.Name = "drv" }),
		"a name with .drv":     changed(func(d *api.Drv) { d.Name = "a.drv.x" }),
		"a name with .DRV":     changed(func(d *api.Drv) { d.Name = "a.DRV" }),
		"32 Drvs":              changed(func(d *api.Drv) { d.Drvs = paths(api.MaxInputs, drv.Ext) }),
		"32 Sources":           changed(func(d *api.Drv) { d.Sources = paths(api.MaxInputs, "") }),
		"32 of each":           changed(func(d *api.Drv) { d.Drvs, d.Sources = paths(api.MaxInputs, drv.Ext), paths(api.MaxInputs, "") }),
		"a derivation as both": changed(func(d *api.Drv) { d.Sources = slices.Clone(d.Drvs) }),
		"one digest twice":     changed(func(d *api.Drv) { d.Sources = []string{noughts + "-a", noughts + "-a.drv", noughts + "-b"} }),
		"paths by bytes":       changed(func(d *api.Drv) { d.Sources = []string{noughts + "-B", noughts + "-a", low + "-A"} }),
		"empty lists":          changed(func(d *api.Drv) { d.Drvs, d.Sources = []string{}, []string{} }),
		"a recipe of 6000":     changed(func(d *api.Drv) { d.Recipe = strings.Repeat("r", api.MaxText) }),
		"6000 new lines":       changed(func(d *api.Drv) { d.Recipe = strings.Repeat("\n", api.MaxText) }),
		"6000 bytes 00 and ff": changed(func(d *api.Drv) { d.Recipe = strings.Repeat("\x00\xff", api.MaxText/2) }),
		"no recipe":            changed(func(d *api.Drv) { d.Recipe = "" }),
		"a recipe that's none": changed(func(d *api.Drv) { d.Recipe = "\"" }),
		"not fixed":            changed(func(d *api.Drv) { d.Fixed = "" }),
		"fixed":                changed(func(d *api.Drv) { d.Fixed = "0123456789abcdef0123456789abcdef0123456789abcdef0123456789abcdef" }),
	}
}

// wrongOnes is what is no derivation, as it breaks one rule of the form.
func wrongOnes() map[string]api.Drv {
	return map[string]api.Drv{
		"nothing":                       {},
		"no name":                       changed(func(d *api.Drv) { d.Name = "" }),
		"a name of 37":                  changed(func(d *api.Drv) { d.Name = strings.Repeat("n", api.MaxName-3) }),
		"a name of 40":                  changed(func(d *api.Drv) { d.Name = strings.Repeat("n", api.MaxName) }),
		"a name of 41":                  changed(func(d *api.Drv) { d.Name = strings.Repeat("n", api.MaxName+1) }),
		"a name with . ahead":           changed(func(d *api.Drv) { d.Name = ".a" }),
		"a name with a blank":           changed(func(d *api.Drv) { d.Name = "a b" }),
		"a name with \"":                changed(func(d *api.Drv) { d.Name = "a\"" }),
		"a name that ends in .drv":      changed(func(d *api.Drv) { d.Name = "a.drv" }),
		"the name .drv":                 changed(func(d *api.Drv) { d.Name = ".drv" }),
		"a name of 36 that does":        changed(func(d *api.Drv) { d.Name = strings.Repeat("n", api.MaxName-8) + ".drv" }),
		"33 Drvs":                       changed(func(d *api.Drv) { d.Drvs = paths(api.MaxInputs+1, drv.Ext) }),
		"33 Sources":                    changed(func(d *api.Drv) { d.Sources = paths(api.MaxInputs+1, "") }),
		"a need that is no derivation":  changed(func(d *api.Drv) { d.Drvs[1] = d.Drvs[1][:len(d.Drvs[1])-4] }),
		"the first one, too":            changed(func(d *api.Drv) { d.Drvs[0] = noughts + "-drv" }),
		"the last one, too":             changed(func(d *api.Drv) { d.Drvs[2] += "x" }),
		"a need that is no path":        changed(func(d *api.Drv) { d.Drvs[1] = d.Drvs[1][1:] }),
		"an empty need":                 changed(func(d *api.Drv) { d.Drvs = []string{""} }),
		"needs that fall":               changed(func(d *api.Drv) { slices.Reverse(d.Drvs) }),
		"needs that fall at the end":    changed(func(d *api.Drv) { d.Drvs[1], d.Drvs[2] = d.Drvs[2], d.Drvs[1] }),
		"a need twice":                  changed(func(d *api.Drv) { d.Drvs[1] = d.Drvs[0] }),
		"the last need twice":           changed(func(d *api.Drv) { d.Drvs[1] = d.Drvs[2] }),
		"a source that is no path":      changed(func(d *api.Drv) { d.Sources[2] = noughts }),
		"the first one that is none":    changed(func(d *api.Drv) { d.Sources[0] = "-" }),
		"the last one that is none":     changed(func(d *api.Drv) { d.Sources[3] += "\n" }),
		"an empty source":               changed(func(d *api.Drv) { d.Sources = []string{""} }),
		"an empty source ahead":         changed(func(d *api.Drv) { d.Sources[0] = "" }),
		"sources that fall":             changed(func(d *api.Drv) { slices.Reverse(d.Sources) }),
		"sources that fall at the end":  changed(func(d *api.Drv) { d.Sources[2], d.Sources[3] = d.Sources[3], d.Sources[2] }),
		"sources by letters, not bytes": changed(func(d *api.Drv) { d.Sources = []string{noughts + "-a", noughts + "-B"} }),
		"a source twice":                changed(func(d *api.Drv) { d.Sources[1] = d.Sources[0] }),
		"the last source twice":         changed(func(d *api.Drv) { d.Sources[2] = d.Sources[3] }),
		"a recipe of 6001":              changed(func(d *api.Drv) { d.Recipe = strings.Repeat("r", api.MaxText+1) }),
		"fixed by 31 bytes":             changed(func(d *api.Drv) { d.Fixed = d.Fixed[2:] }),
		"fixed by 33 bytes":             changed(func(d *api.Drv) { d.Fixed += "00" }),
		"fixed by 20 bytes":             changed(func(d *api.Drv) { d.Fixed = d.Fixed[:40] }),
		"fixed by 63 digits":            changed(func(d *api.Drv) { d.Fixed = d.Fixed[1:] }),
		"fixed by 65 digits":            changed(func(d *api.Drv) { d.Fixed += "0" }),
		"fixed by great letters":        changed(func(d *api.Drv) { d.Fixed = strings.ToUpper(d.Fixed) }),
		"fixed by what is no digit":     changed(func(d *api.Drv) { d.Fixed = "g" + d.Fixed[1:] }),
		"fixed by blanks":               changed(func(d *api.Drv) { d.Fixed = strings.Repeat(" ", 64) }),
		"fixed by a blank":              changed(func(d *api.Drv) { d.Fixed = " " }),
	}
}

func TestP10_1_Form(t *testing.T) {
	for name, d := range rightOnes() {
		if !drv.Form(d) {
			t.Errorf("%s is not right", name)
		}
	}
	for name, d := range wrongOnes() {
		if drv.Form(d) {
			t.Errorf("%s is right", name)
		}
	}
	dice := samples.Dice(1)
	for range 1000 {
		if d := anyDrv(&dice); !drv.Form(d) {
			t.Errorf("%q is not right", d)
		}
	}
}

// TestP10_1_NamesOfAnyBytes: what can't be a path's name can't be a derivation's.
func TestP10_1_NamesOfAnyBytes(t *testing.T) {
	for b := range 256 {
		for _, s := range []string{string([]byte{byte(b)}), "n" + string([]byte{byte(b)}), string([]byte{byte(b)}) + "n"} {
			if drv.Form(api.Drv{Name: s}) != naming.Name(s) {
				t.Errorf("the name %q: %v", s, !naming.Name(s))
			}
		}
	}
}

// TestP10_1_WrongOnesHaveNothing: there is no text, no path and no digest of what isn't right.
func TestP10_1_WrongOnesHaveNothing(t *testing.T) {
	for name, d := range wrongOnes() {
		if s, e := drv.Text(d); s != "" || e != api.ErrForm {
			t.Errorf("Text of %s = %q, %d", name, s, e)
		}
		if s, e := drv.Path(d); s != "" || e != api.ErrForm {
			t.Errorf("Path of %s = %q, %d", name, s, e)
		}
		for _, n := range []int{len(d.Drvs), 0, 1, len(d.Drvs) + 1} {
			l := make([][32]byte, n)
			if sum, e := drv.Modulo(d, l); sum != [32]byte{} || e != api.ErrForm {
				t.Errorf("Modulo of %s and %d = %x, %d", name, n, sum, e)
			}
			if s, e := drv.Out(d, l); s != "" || e != api.ErrForm {
				t.Errorf("Out of %s and %d = %q, %d", name, n, s, e)
			}
		}
	}
}

// TestP10_2_Examples holds what comes of three derivations, the last of which needs the others, against numbers that another program has found.
func TestP10_2_Examples(t *testing.T) {
	a := api.Drv{Name: "a", Recipe: "x"}
	src := api.Drv{Name: "src-1.0", Recipe: "fail \"no\"\n", Fixed: digits}
	both := api.Drv{
		Name:    "b+_?=.",
		Drvs:    []string{"jvmx4ilwnrj4dm06a6padj8b775qxv1l-a.drv", "xqh256c25mq0g3dhpm9si5yn2yp4pqkd-src-1.0.drv"},
		Sources: []string{noughts + "-x.drv", "yalwdr8576nb616h946k8ddbg2bgwybf-a"},
		Recipe:  "write f \"tab\there, \\ and \\\"\n$@out@\r\x00",
	}
	sumA, _ := drv.Modulo(a, nil)
	sumSrc, _ := drv.Modulo(src, nil)
	for _, c := range []struct {
		d              api.Drv
		l              [][32]byte
		path, sum, out string
	}{
		{a, nil, "jvmx4ilwnrj4dm06a6padj8b775qxv1l-a.drv", "eb985d4a696439323eca9ab04d92a363a28097c10a4abedf93af62a80796218d", "yalwdr8576nb616h946k8ddbg2bgwybf-a"},
		{src, nil, "xqh256c25mq0g3dhpm9si5yn2yp4pqkd-src-1.0.drv", "e124526a5086eb96a33f6db345e8674f6d22ac51b1b6225cd30918f2d29ed4b6", "ahily5rz1hic6mibir9kz5frp1zprk12-src-1.0"},
		{both, [][32]byte{sumA, sumSrc}, "51avjb69i2f55yvxm0qj888g0azdhy10-b+_?=..drv", "c1ef9b0431d7ade36bf7c40913bf8b862be496e14bb154a44be92eddc50a34da", "z5jxqnqwvaqx4d19kbm9nlxjwwl3jmgn-b+_?=."},
	} {
		if p, e := drv.Path(c.d); p != c.path || e != api.OK {
			t.Errorf("Path of %s = %s, %d", c.d.Name, p, e)
		}
		if sum, e := drv.Modulo(c.d, c.l); base.Hex(sum[:]) != c.sum || e != api.OK {
			t.Errorf("Modulo of %s = %x, %d", c.d.Name, sum, e)
		}
		if p, e := drv.Out(c.d, c.l); p != c.out || e != api.OK {
			t.Errorf("Out of %s = %s, %d", c.d.Name, p, e)
		}
	}
}

// TestP10_2_TheSame holds Path, Modulo and Out of any derivation against what the document says of them.
func TestP10_2_TheSame(t *testing.T) {
	dice := samples.Dice(2)
	all := rightOnes()
	for range 500 {
		d := anyDrv(&dice)
		all[told(d, d.Drvs)] = d
	}
	for _, d := range all {
		path, _ := naming.Make("text", hash.Of([]byte(told(d, d.Drvs))), d.Name+".drv")
		if p, e := drv.Path(d); p != path || e != api.OK || !drv.IsPath(p) {
			t.Errorf("Path of %q = %s, %d", d, p, e)
		}
		l := sums(&dice, len(d.Drvs))
		var needs []string
		for _, sum := range l {
			needs = append(needs, base.Hex(sum[:]))
		}
		slices.Sort(needs)
		want, kind := hash.Of([]byte(told(d, needs))), "output"
		if d.Fixed != "" {
			want, kind = hash.Of([]byte("fixed:"+d.Fixed+":"+d.Name)), "fixed"
		}
		if sum, e := drv.Modulo(d, l); sum != want || e != api.OK {
			t.Errorf("Modulo of %q = %x, %d", d, sum, e)
		}
		out, _ := naming.Make(kind, want, d.Name)
		if p, e := drv.Out(d, l); p != out || e != api.OK || !naming.Is(p) {
			t.Errorf("Out of %q = %s, %d", d, p, e)
		}
	}
}

func TestP10_2_NotAsManyAsDrvs(t *testing.T) {
	for name, d := range rightOnes() {
		for n := range api.MaxInputs + 3 {
			sum, e := drv.Modulo(d, make([][32]byte, n))
			out, f := drv.Out(d, make([][32]byte, n))
			if ok := n == len(d.Drvs); ok != (e == api.OK) || ok != (f == api.OK) {
				t.Errorf("%s, %d digests: Modulo %d, Out %d", name, n, e, f)
			} else if !ok && (e != api.ErrArg || f != api.ErrArg || sum != [32]byte{} || out != "") {
				t.Errorf("%s, %d digests: Modulo %x, %d, Out %s, %d", name, n, sum, e, out, f)
			}
		}
	}
}

// TestP10_2_SumsAreSorted: the order of the digests doesn't count, but how often each of them is there.
func TestP10_2_SumsAreSorted(t *testing.T) {
	d := some()
	d.Fixed = ""
	x, y := [32]byte{0: 9, 31: 1}, [32]byte{0: 10}
	sum := func(l ...[32]byte) [32]byte {
		sum, e := drv.Modulo(d, l)
		if e != api.OK {
			t.Errorf("Modulo = %d", e)
		}
		return sum
	}
	if a, b, c := sum(x, x, y), sum(x, y, x), sum(y, x, x); a != b || b != c {
		t.Error("the order of the digests counts")
	}
	if sum(x, x, y) == sum(x, y, y) {
		t.Error("what is there twice doesn't count")
	}
	want := hash.Of([]byte(told(d, []string{base.Hex(x[:]), base.Hex(x[:]), base.Hex(y[:])})))
	if sum(y, x, x) != want {
		t.Error("what is there twice is not written twice")
	}
}

// TestP6_ANameIsOfAll changes one thing at a time: another path comes of it, and of what it makes, but of a fixed one only Name and Fixed count there.
func TestP6_ANameIsOfAll(t *testing.T) {
	changes := map[string]func(d *api.Drv){
		"Name":             func(d *api.Drv) { d.Name += "x" },
		"Fixed":            func(d *api.Drv) { d.Fixed = "1" + digits[1:] },
		"Drvs":             func(d *api.Drv) { d.Drvs[0] = noughts + "-0.drv" },
		"Sources":          func(d *api.Drv) { d.Sources = d.Sources[1:] },
		"Recipe":           func(d *api.Drv) { d.Recipe += "\n" },
		"a need as source": func(d *api.Drv) { d.Sources[0], d.Drvs[0] = d.Drvs[0], noughts+"-0.drv" },
	}
	for _, fixed := range []string{"", digits} {
		as := some()
		as.Fixed = fixed
		l := make([][32]byte, 3)
		path, _ := drv.Path(as)
		out, _ := drv.Out(as, l)
		for name, change := range changes {
			d := some()
			d.Fixed = fixed
			change(&d)
			p, e := drv.Path(d)
			o, f := drv.Out(d, l)
			if e != api.OK || f != api.OK || p[:naming.Signs] == path[:naming.Signs] {
				t.Errorf("%s, fixed %q: Path %s, %d, Out %s, %d", name, fixed, p, e, o, f)
			}
			counts := name == "Name" || name == "Fixed" || fixed == "" && name != "Drvs"
			if counts == (o == out) {
				t.Errorf("%s, fixed %q: Out %s, and ahead of it %s", name, fixed, o, out)
			}
		}
	}
}

// TestP6_ModuloFixed: where what a derivation needs is fixed, how that is made doesn't count for what it makes itself.
func TestP6_ModuloFixed(t *testing.T) {
	made := func(recipe, fixed string) (string, string) {
		src := api.Drv{Name: "src", Recipe: recipe, Fixed: fixed}
		path, _ := drv.Path(src)
		sum, _ := drv.Modulo(src, nil)
		d := api.Drv{Name: "d", Drvs: []string{path}}
		own, _ := drv.Path(d)
		out, e := drv.Out(d, [][32]byte{sum})
		if e != api.OK {
			t.Errorf("Out = %d", e)
		}
		return own, out
	}
	pathX, outX := made("x", digits)
	pathY, outY := made("y", digits)
	if pathX == pathY || outX != outY {
		t.Errorf("fixed: %s and %s make %s and %s", pathX, pathY, outX, outY)
	}
	_, outX = made("x", "")
	_, outY = made("y", "")
	if outX == outY {
		t.Errorf("not fixed: both make %s", outX)
	}
}

// roomy: a list with spare room, and something in it.
func roomy(l []string) []string {
	return append(slices.Clone(l), "spare", "room")[:len(l)]
}

func TestP2_WhatIsHandedInStays(t *testing.T) {
	d := some()
	d.Fixed = ""
	d.Drvs, d.Sources = roomy(d.Drvs), roomy(d.Sources)
	l := [][32]byte{{3}, {2}, {1}, {9}, {8}}
	sums := l[:3]
	want, e := drv.Modulo(d, sums)
	if e != api.OK {
		t.Fatalf("Modulo = %d", e)
	}
	drv.Form(d)
	drv.Text(d)
	drv.Path(d)
	drv.Out(d, sums)
	same := changed(func(d *api.Drv) { d.Fixed = "" })
	if !reflect.DeepEqual(d, same) || !slices.Equal(d.Drvs[3:5], []string{"spare", "room"}) || !slices.Equal(d.Sources[4:6], []string{"spare", "room"}) {
		t.Errorf("behind the calls: %q", d)
	}
	if !slices.Equal(l, [][32]byte{{3}, {2}, {1}, {9}, {8}}) {
		t.Errorf("behind the calls: %x", l)
	}
	// It isn't kept, either.
	text, _ := drv.Text(d)
	clear(d.Drvs)
	clear(sums)
	if again, _ := drv.Text(same); again != text {
		t.Errorf("Text = %s, and then %s", text, again)
	}
	if again, _ := drv.Modulo(same, [][32]byte{{3}, {2}, {1}}); again != want {
		t.Errorf("Modulo = %x, and then %x", want, again)
	}
}

func TestP1_AnythingEnds(t *testing.T) {
	dice := samples.Dice(3)
	for n := range 300 {
		s := string(dice.Bytes(n))
		if drv.IsPath(s) {
			t.Errorf("%q is a path", s)
		}
		d := api.Drv{Name: s, Drvs: []string{s, s}, Sources: []string{s}, Recipe: s, Fixed: s}
		if drv.Form(d) {
			t.Errorf("%q is right", d)
		}
		drv.Text(d)
		drv.Path(d)
		drv.Modulo(d, nil)
		drv.Out(d, sums(&dice, n%5))
	}
	much := strings.Repeat("0", 1<<24)
	for _, d := range []api.Drv{{Name: much}, {Name: "a", Drvs: []string{much}}, {Name: "a", Sources: []string{much}}, {Name: "a", Recipe: much}, {Name: "a", Fixed: much}, {Name: "a", Drvs: make([]string, 1<<20)}} {
		if drv.Form(d) {
			t.Error("much is right")
		}
	}
	if p, e := drv.Path(api.Drv{}); p != "" || e != api.ErrForm {
		t.Errorf("Path of nothing = %s, %d", p, e)
	}
	if sum, e := drv.Modulo(api.Drv{}, nil); !bytes.Equal(sum[:], make([]byte, 32)) || e != api.ErrForm {
		t.Errorf("Modulo of nothing = %x, %d", sum, e)
	}
}
