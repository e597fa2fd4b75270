package valid_test

import (
	"crypto/sha256"
	"encoding/hex"
	"fmt"
	"math"
	"reflect"
	"slices"
	"strconv"
	"strings"
	"testing"

	"staddle/api"
	"staddle/nar"
	"staddle/samples"
	"staddle/valid"
)

// pathOf: a path, whose digest's signs are n.
func pathOf(n int, name string) string {
	return fmt.Sprintf("%032d-%s", n, name)
}

// aPath, bPath and cPath rise.
var aPath, bPath, cPath = pathOf(1, "a"), pathOf(2, "b"), pathOf(3, "c")

// sameInfo: is of two paths the same known?
func sameInfo(x, y api.Info) bool {
	return x.Path == y.Path && x.Sum == y.Sum && x.Size == y.Size && x.From == y.From && slices.Equal(x.Refs, y.Refs)
}

// nothing: is it the zero value?
func nothing(x api.Info) bool {
	return sameInfo(x, api.Info{})
}

// rightInfos: what may be known.
func rightInfos() map[string]api.Info {
	sum := sha256.Sum256([]byte("sum"))
	long := pathOf(4, strings.Repeat("n", api.MaxName))
	many := []string{}
	for i := range 3000 {
		many = append(many, pathOf(i, "r"))
	}
	return map[string]api.Info{
		"the least":             {Path: aPath},
		"an empty list":         {Path: aPath, Refs: []string{}},
		"all":                   {Path: aPath, Sum: sum, Size: 112, Refs: []string{aPath, bPath, cPath}, From: pathOf(9, "a.drv")},
		"refers to itself":      {Path: bPath, Refs: []string{bPath}},
		"from itself":           {Path: bPath, From: bPath},
		"from no derivation":    {Path: bPath, From: aPath},
		"of one digest":         {Path: bPath, Refs: []string{pathOf(1, "A"), pathOf(1, "a"), pathOf(1, "aa"), pathOf(1, "b")}},
		"the greatest size":     {Path: aPath, Size: math.MaxInt},
		"the greatest name":     {Path: long, Refs: []string{long}, From: long},
		"many":                  {Path: aPath, Refs: many},
		"all signs of a name":   {Path: pathOf(1, "a.Z_9+-?="), Refs: []string{pathOf(1, "+"), pathOf(1, "-"), pathOf(1, "=.")}},
		"a derivation's":        {Path: pathOf(1, "a.drv"), Refs: []string{pathOf(1, "b.drv")}},
		"the greatest digest":   {Path: strings.Repeat("z", 32) + "-z"},
		"a sum of noughts":      {Path: aPath, Size: 1},
		"a name like a word":    {Path: pathOf(1, "ref"), Refs: []string{pathOf(1, "from"), pathOf(1, "path")}},
		"refers to what is its": {Path: aPath, From: cPath, Refs: []string{cPath}},
	}
}

// wrongInfos: what may not be known.
func wrongInfos() map[string]api.Info {
	sum := sha256.Sum256([]byte("sum"))
	l := map[string]api.Info{
		"nothing":        {},
		"no path":        {Sum: sum, Size: 5, Refs: []string{aPath}, From: bPath},
		"a size below 0": {Path: aPath, Size: -1},
		"the least size": {Path: aPath, Size: math.MinInt},
		"a path twice":   {Path: aPath, Refs: []string{bPath, bPath}},
		"paths that sink": {
			Path: aPath, Refs: []string{cPath, bPath},
		},
		"paths that sink, behind one": {Path: aPath, Refs: []string{aPath, cPath, bPath}},
		"a path again":                {Path: aPath, Refs: []string{aPath, bPath, aPath}},
		"by letters, not bytes":       {Path: aPath, Refs: []string{pathOf(1, "a"), pathOf(1, "B")}},
	}
	for i, wrong := range []string{
		" ", "a", "-", aPath + " ", " " + aPath, aPath + "\n", aPath + "/x", "store/" + aPath, "/" + aPath,
		aPath[1:], aPath[:32], aPath[:33], "0" + aPath, strings.ToUpper(strings.Repeat("b", 32)) + "-b", strings.Repeat("e", 32) + "-x",
		pathOf(1, ".a"), pathOf(1, "a/b"), pathOf(1, "a b"), pathOf(1, "ä"), pathOf(1, strings.Repeat("n", api.MaxName+1)),
		strings.Replace(aPath, "-", "_", 1), aPath + "\x00", "../" + aPath,
	} {
		l["Path "+strconv.Itoa(i)] = api.Info{Path: wrong}
		l["From "+strconv.Itoa(i)] = api.Info{Path: aPath, From: wrong}
		l["Refs "+strconv.Itoa(i)] = api.Info{Path: aPath, Refs: []string{wrong}}
		refs := []string{aPath, cPath, wrong}
		slices.Sort(refs)
		l["Refs among others "+strconv.Itoa(i)] = api.Info{Path: aPath, Refs: refs}
	}
	l["Refs, an empty one"] = api.Info{Path: aPath, Refs: []string{""}}
	l["Refs, an empty one ahead"] = api.Info{Path: aPath, Refs: []string{"", aPath}}
	return l
}

// written: the text of what is known, by another way.
func written(x api.Info) string {
	s := fmt.Sprintf("path %s\nsum %x\nsize %d\nfrom %s\n", x.Path, x.Sum, x.Size, x.From)
	for _, ref := range x.Refs {
		s += "ref " + ref + "\n"
	}
	return s
}

func TestP17_1_Form(t *testing.T) {
	for name, x := range rightInfos() {
		if !valid.Form(x) {
			t.Errorf("%s: Form = false", name)
		}
	}
	for name, x := range wrongInfos() {
		if valid.Form(x) {
			t.Errorf("%s: Form = true", name)
		}
	}
}

func TestP17_1_Encode(t *testing.T) {
	x := api.Info{Path: bPath, Size: 120, From: cPath, Refs: []string{aPath, bPath}}
	x.Sum[0], x.Sum[31] = 0xba, 0x0f
	want := "path " + bPath + "\nsum ba" + strings.Repeat("00", 30) + "0f\nsize 120\nfrom " + cPath + "\nref " + aPath + "\nref " + bPath + "\n"
	if s, e := valid.Encode(x); e != api.OK || s != want {
		t.Errorf("Encode = %q, %d, and not %q", s, e, want)
	}
	want = "path " + aPath + "\nsum " + strings.Repeat("0", 64) + "\nsize 0\nfrom \n"
	if s, e := valid.Encode(api.Info{Path: aPath}); e != api.OK || s != want {
		t.Errorf("Encode = %q, %d, and not %q", s, e, want)
	}
	for name, x := range rightInfos() {
		if s, e := valid.Encode(x); e != api.OK || s != written(x) {
			t.Errorf("%s: Encode = %.300q, %d", name, s, e)
		}
	}
	for name, x := range wrongInfos() {
		if s, e := valid.Encode(x); e != api.ErrForm || s != "" {
			t.Errorf("%s: Encode = %.300q, %d", name, s, e)
		}
	}
}

func TestP17_1_Decode(t *testing.T) {
	for name, x := range rightInfos() {
		if y, e := valid.Decode(written(x)); e != api.OK || !sameInfo(x, y) {
			t.Errorf("%s: Decode = %.300s, %d", name, fmt.Sprint(y), e)
		}
	}
	for name, x := range wrongInfos() {
		refuses(t, name, written(x))
	}
}

// refuses fails where a text is one of what is known.
func refuses(t *testing.T, name, s string) {
	t.Helper()
	if x, e := valid.Decode(s); e != api.ErrText || !nothing(x) {
		t.Errorf("%s: Decode(%.300q) = %v, %d", name, s, x, e)
	}
}

func TestP17_1_DecodeWrong(t *testing.T) {
	x := rightInfos()["all"]
	whole := written(x)
	lines := strings.SplitAfter(whole, "\n")
	lines = lines[:len(lines)-1]
	for i := range lines {
		for j := range lines {
			if i != j {
				swapped := slices.Clone(lines)
				swapped[i], swapped[j] = swapped[j], swapped[i]
				refuses(t, "two lines swapped", strings.Join(swapped, ""))
			}
		}
		if i < 4 {
			refuses(t, "a line missing", strings.Join(slices.Delete(slices.Clone(lines), i, i+1), ""))
		}
		for _, more := range []string{lines[i], "\n", " \n", "x\n", "ref\n", "ref \n", "ref " + aPath + "\n", "note x\n", "\r\n"} {
			refuses(t, "a line more", strings.Join(slices.Insert(slices.Clone(lines), i, more), ""))
		}
		for _, less := range []string{strings.TrimSuffix(lines[i], "\n"), strings.Replace(lines[i], " ", "", 1), strings.Replace(lines[i], " ", "  ", 1), " " + lines[i], strings.Replace(lines[i], " ", "\t", 1), strings.ToUpper(lines[i][:1]) + lines[i][1:], strings.Replace(lines[i], "\n", " \n", 1), strings.Replace(lines[i], "\n", "\r\n", 1), strings.Replace(lines[i], " ", "=", 1)} {
			wrong := slices.Clone(lines)
			wrong[i] = less
			refuses(t, "a line written in another way", strings.Join(wrong, ""))
		}
	}
	for n := range len(whole) {
		if _, e := valid.Decode(whole[:n]); (e == api.OK) != (n > strings.Index(whole, "\nref") && strings.HasSuffix(whole[:n], "\n")) {
			t.Errorf("the first %d bytes: Decode = %d", n, e)
		}
	}
	for _, size := range []string{"", "-1", "-0", "+112", "0112", "00", "1e2", "0x70", "112 ", "1_12", "112.0", "9223372036854775808", "18446744073709551728", "99999999999999999999999", "x"} {
		refuses(t, "a wrong size", strings.Replace(whole, "size 112", "size "+size, 1))
	}
	digits := hex.EncodeToString(x.Sum[:])
	for _, sum := range []string{"", digits[2:], digits[1:], digits + "00", digits + "0", strings.ToUpper(digits), digits[:63] + "g", digits[:62] + "  ", "0x" + digits[2:]} {
		refuses(t, "a wrong sum", strings.Replace(whole, digits, sum, 1))
	}
	for _, s := range []string{"", "\n", "path", whole + whole, whole + "\n", "\n" + whole, whole + "x", strings.Repeat("\n", 100000), strings.Repeat("ref ", 100000), strings.Repeat("path "+aPath+"\n", 2), "\x00"} {
		refuses(t, "another text", s)
	}
}

// TestP17_1_DecodeAnyChange: of a text that is changed at any byte comes what is written so, or nothing.
func TestP17_1_DecodeAnyChange(t *testing.T) {
	whole := written(rightInfos()["all"])
	read := 0
	check := func(s string) {
		x, e := valid.Decode(s)
		if e == api.ErrText && nothing(x) {
			return
		}
		if e != api.OK || !valid.Form(x) || written(x) != s {
			t.Fatalf("Decode(%q) = %v, %d", s, x, e)
		}
		read++
	}
	for i := range len(whole) {
		for c := range 256 {
			check(whole[:i] + string([]byte{byte(c)}) + whole[i+1:])
			check(whole[:i] + string([]byte{byte(c)}) + whole[i:])
		}
		for j := i; j <= len(whole); j++ {
			check(whole[:i] + whole[j:])
		}
	}
	if read < 1000 {
		t.Errorf("only %d of the changed texts were read", read)
	}
}

func TestP17_1_Make(t *testing.T) {
	for _, x := range []api.Tree{samples.File(""), samples.Tool("x"), samples.Link("y"), samples.Dir(), samples.Dir("a", samples.File("x"), "b", samples.Dir("c", samples.Link("d")))} {
		for _, refs := range []struct{ told, want []string }{
			{nil, nil},
			{[]string{}, nil},
			{[]string{aPath}, []string{aPath}},
			{[]string{cPath, aPath, bPath}, []string{aPath, bPath, cPath}},
			{[]string{bPath, aPath, bPath, bPath, aPath}, []string{aPath, bPath}},
			{[]string{pathOf(1, "b"), pathOf(1, "B"), pathOf(0, "c")}, []string{pathOf(0, "c"), pathOf(1, "B"), pathOf(1, "b")}},
		} {
			for _, from := range []string{"", cPath, pathOf(5, "x.drv")} {
				p, _ := nar.Write(x)
				want := api.Info{Path: aPath, Sum: sha256.Sum256(p), Size: len(p), Refs: refs.want, From: from}
				got, e := valid.Make(aPath, x, refs.told, from)
				if e != api.OK || !sameInfo(got, want) || !valid.Form(got) {
					t.Errorf("Make = %v, %d, and not %v", got, e, want)
				}
			}
		}
	}
}

func TestP17_1_MakeWrong(t *testing.T) {
	for name, x := range samples.Wrong() {
		for _, path := range []string{aPath, "", "x"} {
			if got, e := valid.Make(path, x, []string{bPath}, ""); e != api.ErrForm || !nothing(got) {
				t.Errorf("%s: Make = %v, %d", name, got, e)
			}
		}
	}
	for name, x := range wrongInfos() {
		// What Make sorts and finds itself can't be wrong.
		wrong := x.Path == "" || strings.HasPrefix(name, "Path") || strings.HasPrefix(name, "From") || strings.HasPrefix(name, "Refs")
		got, e := valid.Make(x.Path, samples.File("x"), x.Refs, x.From)
		if wrong && (e != api.ErrForm || !nothing(got)) || !wrong && e != api.OK {
			t.Errorf("%s: Make = %v, %d", name, got, e)
		}
	}
}

// TestP2_InfosShareNothing: what is handed in stays as it is, its spare room too, and an answer has none of it.
func TestP2_InfosShareNothing(t *testing.T) {
	room := []string{cPath, aPath, bPath, aPath, "spare", "room"}
	was := slices.Clone(room)
	x := samples.Roomy(samples.Dir("a", samples.File("x")))
	one, e := valid.Make(aPath, x, room[:4], "")
	is(t, "Make", e, api.OK)
	two, e := valid.Make(aPath, x, room[:4], "")
	is(t, "Make", e, api.OK)
	sorted, e := valid.Make(aPath, x, []string{aPath, bPath, cPath}[:2], "")
	is(t, "Make", e, api.OK)
	if !slices.Equal(room, was) || !samples.Intact(x, samples.Dir("a", samples.File("x"))) {
		t.Fatal("what Make was handed has changed, or its spare room")
	}
	clear(one.Refs[:cap(one.Refs)])
	clear(room)
	if !slices.Equal(two.Refs, []string{aPath, bPath, cPath}) || !slices.Equal(sorted.Refs, []string{aPath, bPath}) {
		t.Error("an answer of Make shares memory with another, or with what was handed in")
	}
	all := rightInfos()["all"]
	text, e := valid.Encode(all)
	is(t, "Encode", e, api.OK)
	one, _ = valid.Decode(text)
	two, _ = valid.Decode(text)
	clear(one.Refs[:cap(one.Refs)])
	if !sameInfo(two, all) || !reflect.DeepEqual(all, rightInfos()["all"]) {
		t.Error("two answers of Decode share memory, or Encode has changed what it was handed")
	}
}
