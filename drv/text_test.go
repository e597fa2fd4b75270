package drv_test

import (
	"reflect"
	"regexp"
	"slices"
	"strings"
	"testing"

	"staddle/api"
	"staddle/drv"
	"staddle/samples"
)

// told is what the document says of a derivation's text, with other texts in the place of Drvs.
func told(d api.Drv, drvs []string) string {
	stands := strings.NewReplacer("\\", "\\\\", "\"", "\\\"", "\n", "\\n", "\t", "\\t")
	list := func(l []string) string {
		s := ""
		for _, x := range l {
			s += ",\"" + stands.Replace(x) + "\""
		}
		return "[" + strings.TrimPrefix(s, ",") + "]"
	}
	return "Derive(\"" + stands.Replace(d.Name) + "\"," + list(drvs) + "," + list(d.Sources) + ",\"" + stands.Replace(d.Recipe) + "\",\"" + stands.Replace(d.Fixed) + "\")"
}

func TestP10_1_TextExamples(t *testing.T) {
	for _, c := range []struct {
		d    api.Drv
		want string
	}{
		{api.Drv{Name: "a", Recipe: "x"}, `Derive("a",[],[],"x","")`},
		{api.Drv{Name: "a"}, `Derive("a",[],[],"","")`},
		{api.Drv{Name: "a", Recipe: "\\ \" \n \t \\n \\\\ \"\" ' / $ \r"}, `Derive("a",[],[],"\\ \" \n \t \\n \\\\ \"\" ' / $ ` + "\r" + `","")`},
		{api.Drv{Name: "a", Recipe: "\x00\x7f\x80\xffäé\u2028"}, "Derive(\"a\",[],[],\"\x00\x7f\x80\xffäé\u2028\",\"\")"},
		{api.Drv{Name: "a-1.0", Drvs: []string{noughts + "-b.drv"}, Sources: []string{noughts + "-c", low + "-d"}, Recipe: "mkdir m\nmkdir n", Fixed: digits},
			`Derive("a-1.0",["` + noughts + `-b.drv"],["` + noughts + `-c","` + low + `-d"],"mkdir m\nmkdir n","` + digits + `")`},
	} {
		if s, e := drv.Text(c.d); s != c.want || e != api.OK {
			t.Errorf("Text(%q) = %s, %d, and not %s", c.d, s, e, c.want)
		}
		reads(t, c.want, c.d, api.OK)
	}
}

// reads fails where something else is read of a text.
func reads(t *testing.T, s string, want api.Drv, fault api.Errno) {
	t.Helper()
	d, e := drv.Read(s)
	if len(want.Drvs) == 0 && len(d.Drvs) == 0 {
		want.Drvs = d.Drvs // nil and empty lists are the same
	}
	if len(want.Sources) == 0 && len(d.Sources) == 0 {
		want.Sources = d.Sources
	}
	if e != fault || !reflect.DeepEqual(d, want) {
		t.Errorf("Read(%.300q) = %.300q, %d, and not %.300q, %d", s, d, e, want, fault)
	}
}

func TestP10_1_TextAndRead(t *testing.T) {
	dice := samples.Dice(4)
	all := rightOnes()
	for range 2000 {
		d := anyDrv(&dice)
		all[told(d, d.Drvs)] = d
	}
	for name, d := range all {
		s, e := drv.Text(d)
		if s != told(d, d.Drvs) || e != api.OK {
			t.Errorf("Text of %s = %.200q, %d", name, s, e)
		}
		reads(t, s, d, api.OK)
	}
}

// TestP10_1_EveryByte: each byte of a recipe stands for itself, but four of them.
func TestP10_1_EveryByte(t *testing.T) {
	for b := range 256 {
		c := string([]byte{byte(b)})
		d := api.Drv{Name: "a", Recipe: c + "x" + c}
		if s, e := drv.Text(d); s != told(d, nil) || e != api.OK {
			t.Errorf("Text with %q = %q, %d", c, s, e)
		}
		reads(t, told(d, nil), d, api.OK)
		itself := `Derive("a",[],[],"` + c + `x","")`
		switch c {
		case "\n", "\t":
			reads(t, itself, api.Drv{}, api.ErrForm)
		case "\\", "\"":
			reads(t, itself, api.Drv{}, api.ErrText)
		default:
			reads(t, itself, api.Drv{Name: "a", Recipe: c + "x"}, api.OK)
		}
		switch behind := `Derive("a",[],[],"\` + c + `","")`; c {
		case "n":
			reads(t, behind, api.Drv{Name: "a", Recipe: "\n"}, api.OK)
		case "t":
			reads(t, behind, api.Drv{Name: "a", Recipe: "\t"}, api.OK)
		case "\\", "\"":
			reads(t, behind, api.Drv{Name: "a", Recipe: c}, api.OK)
		default:
			reads(t, behind, api.Drv{}, api.ErrText)
		}
	}
}

// TestP10_1_ReadNoForm: these are not of the form.
func TestP10_1_ReadNoForm(t *testing.T) {
	for _, s := range []string{
		"", " ", "\"", "\\", "(", ")", "Derive", "Derive(", "Derive()", "Derive(,,,,)", "derive(\"a\",[],[],\"x\",\"\")", "DERIVE(\"a\",[],[],\"x\",\"\")",
		`Derive("a")`, `Derive("a",[])`, `Derive("a",[],[])`, `Derive("a",[],[],"x")`, `Derive("a",[],[],"x",)`, `Derive("a",[],[],"x","",)`, `Derive("a",[],[],"x","","")`, `Derive("a",[],[],"x","",[])`,
		`Derive("a",[],[],[],"x","")`, `Derive("a",[],"x","")`, `Derive("a","x","")`, `Derive("a",[],,"x","")`, `Derive(,"a",[],[],"x","")`, `Derive("a",,[],[],"x","")`,
		`Derive(a,[],[],"x","")`, `Derive("a",[],[],x,"")`, `Derive("a",[],[],"x",)`, `Derive('a',[],[],"x","")`, `Derive([],[],[],"x","")`, `Derive(["a"],[],[],"x","")`, `Derive("a","",[],"x","")`, `Derive("a",[],"","x","")`, `Derive("a",[],[],["x"],"")`, `Derive("a",[],[],"x",[])`,
		` Derive("a",[],[],"x","")`, `Derive("a",[],[],"x","") `, "Derive(\"a\",[],[],\"x\",\"\")\n", `Derive ("a",[],[],"x","")`, `Derive( "a",[],[],"x","")`, `Derive("a" ,[],[],"x","")`, `Derive("a", [],[],"x","")`, `Derive("a",[ ],[],"x","")`, `Derive("a",[],[] ,"x","")`, `Derive("a",[],[],"x","" )`,
		`Derive("a",[],[],"x","")Derive("a",[],[],"x","")`, `Derive("a",[],[],"x","")"`, `Derive("a",[],[],"x","")]`, `Derive("a",[],[],"x",""))`, `Derive(("a",[],[],"x","")`, `Derive("a",[],[],"x",""`, `Derive("a",[],[],"x","`, `"Derive("a",[],[],"x","")"`, `("a",[],[],"x","")`,
		`Derive("a",[,],[],"x","")`, `Derive("a",["p",],[],"x","")`, `Derive("a",[,"p"],[],"x","")`, `Derive("a",["p""q"],[],"x","")`, `Derive("a",["p" "q"],[],"x","")`, `Derive("a",["p", "q"],[],"x","")`, `Derive("a",["p",,"q"],[],"x","")`, `Derive("a",[["p"]],[],"x","")`, `Derive("a",[p],[],"x","")`, `Derive("a",["p",[],"x","")`, `Derive("a","p"],[],"x","")`, `Derive("a",],[],"x","")`, `Derive("a",[,[],"x","")`, `Derive("a",[]],[],"x","")`, `Derive("a",[[],[],"x","")`, `Derive("a",(),[],"x","")`,
		`Derive("a"[],[],"x","")`, `Derive("a",[][],"x","")`, `Derive("a",[],[]"x","")`, `Derive("a",[],[],"x""")`, `Derive("a";[];[];"x";"")`,
		`Derive("a",[],[],"\","")`, `Derive("a",[],[],"\x41","")`, `Derive("a",[],[],"\r","")`, `Derive("a",[],[],"\N","")`, `Derive("a",[],[],"\0","")`, `Derive("a",[],[],"\$","")`, `Derive("a",[],[],"\'","")`, `Derive("a",[],[],"\/","")`, `Derive("a",[],[],"\ ","")`, "Derive(\"a\",[],[],\"\\\n\",\"\")", "Derive(\"a\",[],[],\"\\\t\",\"\")", `Derive("a",[],[],"\\\","")`, `Derive("a",[],[],"x","\")`, `Derive("\a",[],[],"x","")`, `Derive("a",["\p"],[],"x","")`, `Derive("a",[],["\p"],"x","")`, `Derive("a",[],[],"x","\f")`,
		`Derive("a",[],[],"x"",""`, `Derive("a",[],[],""x","")`, `Derive("a",[],[],"x"y,"")`,
	} {
		reads(t, s, api.Drv{}, api.ErrText)
	}
}

// TestP10_1_ReadNoDerivation: these are of the form, but Text makes none of them.
func TestP10_1_ReadNoDerivation(t *testing.T) {
	for _, d := range wrongOnes() {
		reads(t, told(d, d.Drvs), api.Drv{}, api.ErrForm)
	}
	for _, s := range []string{
		`Derive("",[],[],"","")`, `Derive("a.drv",[],[],"x","")`, `Derive("a\n",[],[],"x","")`, `Derive("a\\",[],[],"x","")`, `Derive("\"",[],[],"x","")`, `Derive("a b",[],[],"x","")`,
		`Derive("a",[""],[],"x","")`, `Derive("a",["p"],[],"x","")`, `Derive("a",[],["p","q"],"x","")`, `Derive("a",[],["\t"],"x","")`, `Derive("a",[],[],"x","0")`, `Derive("a",[],[],"x","\n")`, `Derive("a",[],[],"x"," ")`,
		"Derive(\"a\",[],[],\"x\ny\",\"\")", "Derive(\"a\",[],[],\"\n\",\"\")", "Derive(\"a\",[],[],\"x\t\",\"\")", "Derive(\"a\",[],[],\"\\n\n\",\"\")", "Derive(\"a\n\",[],[],\"x\",\"\")", "Derive(\"a\",[\"\t\"],[],\"x\",\"\")", "Derive(\"a\",[],[],\"x\",\"\n\")",
		`Derive("a",[` + strings.Repeat(`"",`, 100000) + `""],[],"x","")`,
		`Derive("a",[],[],"` + strings.Repeat(`\n`, api.MaxText) + `r","")`,
	} {
		reads(t, s, api.Drv{}, api.ErrForm)
	}
}

// TestP10_1_TextAheadOfForm: a fault of the form at the end goes ahead of what is wrong with what stands there.
func TestP10_1_TextAheadOfForm(t *testing.T) {
	for _, d := range wrongOnes() {
		s := told(d, d.Drvs)
		reads(t, s+" ", api.Drv{}, api.ErrText)
		reads(t, s[:len(s)-1], api.Drv{}, api.ErrText)
		reads(t, s[:len(s)-3]+`\x")`, api.Drv{}, api.ErrText)
	}
	reads(t, "Derive(\"a\",[],[],\"\n\",\"\"", api.Drv{}, api.ErrText)
	reads(t, `Derive("a",[`+strings.Repeat(`"",`, 100000)+`"",],[],"x","")`, api.Drv{}, api.ErrText)
	reads(t, `Derive("a",[`+strings.Repeat(`"",`, 100000), api.Drv{}, api.ErrText)
}

// The document's form of a derivation's text.
const (
	textForm = `"(?:[^"\\]|\\["\\nt])*"`
	listForm = `\[(?:` + textForm + `(?:,` + textForm + `)*)?\]`
	drvForm  = `(?s)\ADerive\((` + textForm + `),(` + listForm + `),(` + listForm + `),(` + textForm + `),(` + textForm + `)\)\z`
)

var (
	ofForm = regexp.MustCompile(drvForm)
	inList = regexp.MustCompile(textForm)
)

// model reads a text by its form.
func model(s string) (api.Drv, api.Errno) {
	parts := ofForm.FindStringSubmatch(s)
	if parts == nil {
		return api.Drv{}, api.ErrText
	}
	back := strings.NewReplacer("\\\\", "\\", "\\\"", "\"", "\\n", "\n", "\\t", "\t")
	text := func(s string) string { return back.Replace(s[1 : len(s)-1]) }
	list := func(s string) []string {
		var l []string
		for _, x := range inList.FindAllString(s, -1) {
			l = append(l, text(x))
		}
		return l
	}
	d := api.Drv{Name: text(parts[1]), Drvs: list(parts[2]), Sources: list(parts[3]), Recipe: text(parts[4]), Fixed: text(parts[5])}
	if !drv.Form(d) || told(d, d.Drvs) != s {
		return api.Drv{}, api.ErrForm
	}
	return d, api.OK
}

// TestP10_1_ReadNearly holds Read against the model at texts in which a place was changed, or two.
func TestP10_1_ReadNearly(t *testing.T) {
	dice := samples.Dice(5)
	signs := []string{"", "\"", "\\", "[", "]", "(", ")", ",", "n", "\n", "\t", " ", "0", "x", "\x00", "\xff", "\\n", "\\\"", "\",\"", "[]", "\"\"", "é"}
	seen := map[api.Errno]int{}
	check := func(s string) {
		d, e := model(s)
		reads(t, s, d, e)
		seen[e]++
	}
	change := func(s string) string {
		at := dice.Roll(len(s) + 1)
		sign, gone := signs[dice.Roll(len(signs))], min(dice.Roll(3), len(s)-at)
		return s[:at] + sign + s[at+gone:]
	}
	for range 300 {
		d := anyDrv(&dice)
		s := told(d, d.Drvs)
		check(s)
		for range 60 {
			check(change(s))
			check(change(change(s)))
		}
	}
	whole := some()
	whole.Drvs, whole.Sources, whole.Fixed = whole.Drvs[:1], whole.Sources[:2], ""
	s := told(whole, whole.Drvs)
	for at := range len(s) {
		check(s[:at])
		check(s[at:])
		check(s[:at] + s[at+1:])
		for _, sign := range signs {
			check(s[:at] + sign + s[at:])
			check(s[:at] + sign + s[at+1:])
		}
	}
	if seen[api.OK] < 1000 || seen[api.ErrText] < 1000 || seen[api.ErrForm] < 1000 {
		t.Errorf("too few of a sort: %v", seen)
	}
}

func TestP2_ReadAnswersAreNewMemory(t *testing.T) {
	want := some()
	s, _ := drv.Text(want)
	first, _ := drv.Read(s)
	second, _ := drv.Read(s)
	for _, l := range [][]string{first.Drvs, first.Sources} {
		for i := range l[:cap(l)] {
			l[:cap(l)][i] = "#"
		}
	}
	reads(t, s, want, api.OK)
	if !reflect.DeepEqual(second, want) {
		t.Errorf("an answer has changed with an earlier one: %q", second)
	}
	third, _ := drv.Read(s)
	drvs := third.Drvs[:cap(third.Drvs)]
	for i := range drvs {
		drvs[i] = "#"
	}
	if !slices.Equal(third.Sources, want.Sources) {
		t.Errorf("the lists of an answer share memory: %q", third.Sources)
	}
}

func TestP1_AnyTextEnds(t *testing.T) {
	dice := samples.Dice(6)
	const signs = "Derive(\"a\",[],[],\"x\\n\",\"\")\n\t\x00\xff"
	for n := range 2000 {
		s := dice.Bytes(n % 100)
		reads(t, string(s), api.Drv{}, api.ErrText)
		for i := range s {
			s[i] = signs[int(s[i])%len(signs)]
		}
		drv.Read(string(s))
		drv.Read("Derive(\"" + string(s))
	}
	for _, part := range []string{"\"", "\\", "[", "]", ",", "(", "\"\",", "[],", "Derive(", "\\\"", "\x00"} {
		much := strings.Repeat(part, 1<<20)
		for _, ahead := range []string{"", "Derive(", "Derive(\"", "Derive(\"a\",", "Derive(\"a\",[", "Derive(\"a\",[\"", "Derive(\"a\",[],[],\""} {
			reads(t, ahead+much, api.Drv{}, api.ErrText)
		}
	}
}
