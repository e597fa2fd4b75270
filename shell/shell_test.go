package shell_test

import (
	"math"
	"slices"
	"strconv"
	"strings"
	"testing"

	"staddle/api"
	"staddle/eval"
	"staddle/shell"
)

// What another program has found.
const (
	aSrc   = "b9l3j1a7fzy00c72rb0j52g92phv852z-a" // a file with x
	aDrv   = "5ffnln56i9b7v8yv0fq0ynlm3qvdgkpn-a.drv"
	aPath  = "azwasqkj3j07n496nb57h065rr7z290j-a"
	bDrv   = "p3krif62d61axmzyw292fl8mzg25a96h-b.drv"
	bPath  = "4qmlrm8ljyfbx6sxpcc6p0vrngvjg34z-b"
	bSrc   = "a42lll0p2yfpv8j5harsdpvs0h3isx6l-b" // a file with y
	bEmpty = "p1cd87ak44khav2vgxwsv3s1v1azxsgy-b" // an empty file
	// The pack of the first file, and that of no path.
	noPack = "0000000e73746164646c652d7061636b2d31509cc90c2b12734a12af98d62e3b3b7da54f0373c1b33b972cb9d5827e762662"
	aPack  = "0000000e73746164646c652d7061636b2d310000007c706174682062396c336a316137667a7930306337327262306a35326739327068763835327a2d610a" +
		"73756d20326361306238636539393666383635646233373631396266653931303233353539333035616164383135383034326663366464623065663164343363356236370a" +
		"73697a65203132300a66726f6d200a000000780d000000000000006e69782d617263686976652d3100000001000000000000002800000000000000" +
		"040000000000000074797065000000000700000000000000726567756c6172000800000000000000636f6e74656e747301000000000000007800000000000000" +
		"01000000000000002900000000000000c843815ffd167844878b23c7a846deda6d41d8ebe88e78379de99b4a1c075dbd"
	noPath = "00000000000000000000000000000000-none"
)

// Expressions, and what they are.
const (
	aText  = `derivation { name = "a"; recipe = "write f x"; }`
	bText  = `derivation { name = "b"; recipe = "write g y"; }`
	aShown = `{drvPath = "` + aDrv + `"; name = "a"; outPath = "` + aPath + `"; type = "derivation";}`
	bShown = `{drvPath = "` + bDrv + `"; name = "b"; outPath = "` + bPath + `"; type = "derivation";}`
)

// is fails where something isn't as it must be.
func is[T comparable](t *testing.T, what string, got, want T) {
	t.Helper()
	if got != want {
		t.Fatalf("%s: %v, and not %v", what, got, want)
	}
}

// fresh: a shell of a new store.
func fresh(t *testing.T, sectors int) *shell.Shell {
	t.Helper()
	h, e := shell.New(sectors)
	is(t, "New", e, api.OK)
	return h
}

// says fails where lines have other answers; by turns a line and its answer are handed in.
func says(t *testing.T, h *shell.Shell, lines ...string) {
	t.Helper()
	for i := 0; i < len(lines); i += 2 {
		if got := h.Line(lines[i]); got != lines[i+1] {
			t.Fatalf("%q is answered %q, and not %q", lines[i], got, lines[i+1])
		}
	}
}

func TestP23_1_New(t *testing.T) {
	for _, n := range []int{math.MinInt, -1, 0, 1, 5, api.MaxSectors + 1, math.MaxInt} {
		if h, e := shell.New(n); h != nil || e != api.ErrArg {
			t.Errorf("New(%d) = %v, %d", n, h, e)
		}
	}
	for _, n := range []int{6, 100, api.MaxSectors} {
		h := fresh(t, n)
		says(t, h, "list", "", "verify", "0", "eval 1", "1")
	}
	// As many sectors as are told.
	says(t, fresh(t, 20), "file a "+strings.Repeat("x", 2000), "error 15")
	says(t, fresh(t, 60), "file a x", aSrc)
}

// TestP23_1_Apart: each shell has a store of its own.
func TestP23_1_Apart(t *testing.T) {
	h, other := fresh(t, 60), fresh(t, 60)
	says(t, h, "file a x", aSrc, "list", aSrc)
	says(t, other, "list", "", "arm 1", "ok", "file a x", "error 14")
	says(t, h, "list", aSrc)
}

func TestP23_1_Nil(t *testing.T) {
	var h *shell.Shell
	for _, line := range []string{"", "x", "list", "eval 1", "crash", "arm 1", strings.Repeat("x", api.MaxLine+1)} {
		says(t, h, line, "error 6")
	}
}

func TestP23_1_Eval(t *testing.T) {
	h := fresh(t, 60)
	says(t, h,
		"eval 1 + 1", "2",
		"eval 1", "1",
		"eval  1 ", "1",
		"eval \t1\n+ 2", "3",
		"eval \"a  b\"", "\"a  b\"",
		"eval [1 2 [3]]", "[1 2 [3]]",
		"eval x: x", "<fn>",
		"eval ", "error 4",
		"eval", "error 4",
		"eval1", "error 4",
		"Eval 1", "error 4",
		" eval 1", "error 4",
		"eval\t1", "error 4",
		"eval 1 )", "error 4",
		"eval x", "error 9",
		"eval throw \"x\"", "error 12",
		"eval let x = x; in x", "error 10",
		"eval [].x", "error 8",
		"eval {}.x", "error 6",
		"eval 9223372036854775807 + 1", "error 13",
		"eval { a = 1; a = 2; }", "error 7",
		"eval "+aText, aShown,
		"list", "",
	)
}

// TestP23_1_Fuel: an expression has 20000 steps, and not one more.
func TestP23_1_Fuel(t *testing.T) {
	h := fresh(t, 60)
	met := map[int]int{}
	for nots := range 40 {
		// Each part of the list is a step of each map, and what stands ahead of that is one step more each.
		for _, parts := range []int{1106, 1107} {
			text := "let f = x: x; in if " + strings.Repeat("!", nots/2*2) + "true then " + strings.Repeat("-", nots%2) +
				"length (" + strings.Repeat("map f (", 18) + "[" + strings.Repeat("1 ", parts) + "]" + strings.Repeat(")", 19) + " else 0"
			x, _, e := eval.Text(text, api.MaxFuel)
			is(t, "Text", e, api.OK)
			met[x.Steps]++
			want := x.Text
			if x.Steps > 20000 {
				want = "error 11"
			}
			says(t, h, "eval "+text, want, "make "+text, want)
		}
	}
	if met[20000] == 0 || met[20001] == 0 {
		t.Errorf("%v", met)
	}
}

func TestP23_1_Make(t *testing.T) {
	h := fresh(t, 100)
	says(t, h,
		"make 1 + 1", "2",
		"make "+aText, aShown+" "+aDrv,
		"list", aDrv,
		"make ["+aText+"]", "[<fn> "+`{name = "a"; recipe = "write f x";}]`,
		"make [("+bText+") ("+aText+")]", "["+bShown+" "+aShown+"] "+aDrv+" "+bDrv,
		"list", aDrv+" "+bDrv,
		"make", "error 4",
		"make ", "error 4",
		"make )", "error 4",
		"make x", "error 9",
		// Of what was added beside an error nothing is told.
		"make [(derivation { name = \"c\"; recipe = \"write f 1\"; }) (derivation { name = \"n\"; recipe = storePath \""+noPath+"\"; })]", "error 9",
		"verify", "0",
	)
	is(t, "List", len(strings.Split(h.Line("list"), " ")), 3)
}

func TestP23_1_Build(t *testing.T) {
	h := fresh(t, 100)
	says(t, h,
		"make "+aText, aShown+" "+aDrv,
		"build "+aDrv, aPath,
		"build "+aDrv, aPath,
		"list", aDrv+" "+aPath,
		"build "+aPath, "error 4",
		"build "+bDrv, "error 6",
		"build ", "error 4",
		"build", "error 4",
		"build "+aDrv+" ", "error 4",
		"build  "+aDrv, "error 4",
		"build "+aDrv+" "+aDrv, "error 4",
	)
}

func TestP23_1_File(t *testing.T) {
	h := fresh(t, 100)
	says(t, h,
		"file a x", aSrc,
		"file b ", bEmpty,
		"file  x", "error 4",
		"file  ", "error 4",
		"file b", "error 4",
		"file ", "error 4",
		"file", "error 4",
		"file a x ", "error 4",
		"file a x y", "error 4",
		"file a  x", "error 4",
		"file .a x", "error 4",
		"file a/b x", "error 4",
		"file "+strings.Repeat("n", 41)+" x", "error 4",
		"file b y", bSrc,
	)
	// The bytes are those of the word, whichever they are.
	odd := "\x00\xff\n\t\"\\"
	path := h.Line("file odd " + odd)
	says(t, h, "eval 1", "1", "export "+path, h.Line("export "+path))
	is(t, "in the pack", strings.Contains(h.Line("export "+path), "00ff0a09225c"), true)
}

func TestP23_1_Profiles(t *testing.T) {
	h := fresh(t, 100)
	says(t, h,
		"file a x", aSrc,
		"set p "+aSrc, "1",
		"set p "+aSrc, "2",
		"set q "+aSrc, "1",
		"set p "+aSrc, "3",
		"back p", "2",
		"back p", "1",
		"back p", "error 9",
		"switch p 3", "ok",
		"switch p 4", "error 9",
		"switch p 0", "error 9",
		"switch p 03", "error 4",
		"switch p -1", "error 4",
		"switch p +3", "error 4",
		"switch p ", "error 4",
		"switch p", "error 4",
		"switch  3", "error 4",
		"switch p 3 ", "error 4",
		"switch p 999999999", "error 9",
		"switch p 1000000000", "error 4",
		"switch r 1", "error 6",
		"drop p 3", "error 17",
		"drop p 2", "ok",
		"drop p 2", "error 9",
		"drop p 01", "error 4",
		"drop p", "error 4",
		"set p "+aSrc, "4",
		"old p", "2",
		"old p", "0",
		"old r", "error 6",
		"old ", "error 4",
		"old", "error 4",
		"old p ", "error 4",
		"back", "error 4",
		"back ", "error 4",
		"back r", "error 6",
		"set p", "error 4",
		"set p ", "error 9",
		"set  "+aSrc, "error 4",
		"set p "+noPath, "error 9",
		"set p "+aSrc+" 1", "error 4",
		"set "+aSrc+" p", "error 9",
	)
}

func TestP23_1_Root(t *testing.T) {
	h := fresh(t, 100)
	says(t, h,
		"file a x", aSrc,
		"root r ", "error 6",
		"root r", "error 4",
		"root r "+aSrc, "ok",
		"collect ", "0",
		"root r "+noPath, "error 9",
		"root  "+aSrc, "error 4",
		"root r "+aSrc+" ", "error 4",
		// A path that is empty: it is gone.
		"root r ", "ok",
		"root r ", "error 6",
		"collect ", "1 "+aSrc,
		"list", "",
	)
}

func TestP23_1_Collect(t *testing.T) {
	for _, c := range []struct{ line, want, left string }{
		{"collect ", "1 " + aDrv, aPath},
		{"collect none", "1 " + aDrv, aPath},
		{"collect outs", "1 " + aDrv, aPath},
		{"collect drvs", "0", aDrv + " " + aPath},
		{"collect both", "0", aDrv + " " + aPath},
		{"collect Drvs", "1 " + aDrv, aPath},
		{"collect", "error 4", aDrv + " " + aPath},
		{"collect drvs ", "error 4", aDrv + " " + aPath},
		{"collect drvs outs", "error 4", aDrv + " " + aPath},
	} {
		h := fresh(t, 100)
		says(t, h, "make "+aText, aShown+" "+aDrv, "build "+aDrv, aPath, "set p "+aPath, "1", c.line, c.want, "list", c.left)
	}
	// N is -1: all go, each ahead of what it refers to.
	h := fresh(t, 200)
	says(t, h, "make "+aText, aShown+" "+aDrv, "file b y", bSrc, "root r "+aDrv, "ok", "collect drvs", "1 "+bSrc, "root s "+aDrv, "ok")
	says(t, h, "root r ", "ok", "root s ", "ok")
	for i := range 20 {
		if got := h.Line("file n " + strconv.Itoa(i)); strings.HasPrefix(got, "error") {
			t.Fatal(got)
		}
	}
	got := strings.Split(h.Line("collect "), " ")
	is(t, "how many", got[0], "21")
	is(t, "how many", len(got), 22)
	says(t, h, "list", "")
}

func TestP23_1_ExportImport(t *testing.T) {
	h, other := fresh(t, 100), fresh(t, 100)
	says(t, h,
		"file a x", aSrc,
		"export "+aSrc, aPack,
		"export "+noPath, "error 6",
		"export x", "error 4",
		"export ", "error 4",
		"export", "error 4",
		"export "+aSrc+" ", "error 4",
	)
	wrong := "1" + aPack[1:]
	says(t, other,
		"import "+aPack, aSrc,
		"import "+aPack, aSrc,
		"list", aSrc,
		"import", "error 4",
		"import ", "error 3",
		"import 0", "error 4",
		"import 0g", "error 4",
		"import "+strings.ToUpper(aPack), "error 4",
		"import "+aPack+" ", "error 4",
		"import  "+aPack, "error 4",
		"import "+aPack[1:], "error 4",
		"import "+aPack[2:], "error 16",
		"import "+wrong, "error 16",
		"import 00", "error 3",
		"verify", "0",
	)
	// Several paths: of what is exported, and all that it refers to.
	says(t, h, "make "+aText, aShown+" "+aDrv)
	need := `derivation { name = "n"; recipe = "write f ${` + aText + `}"; }`
	words := strings.Split(h.Line("make ("+need+").drvPath"), " ")
	is(t, "Make", len(words), 3)
	says(t, other, "import "+h.Line("export "+words[2]), aDrv+" "+words[2])
	// A pack of no path.
	says(t, other, "import "+noPack, "")
}

func TestP23_1_Verify(t *testing.T) {
	says(t, fresh(t, 100),
		"verify", "0",
		"file a x", aSrc,
		"verify", "0",
		"verify ", "error 4",
		"verify x", "error 4",
		" verify", "error 4",
	)
}

func TestP23_1_List(t *testing.T) {
	says(t, fresh(t, 100),
		"list", "",
		"file a x", aSrc,
		"list", aSrc,
		"make "+aText, aShown+" "+aDrv,
		"list", aDrv+" "+aSrc,
		"list ", "error 4",
		"list x", "error 4",
		" list", "error 4",
		"LIST", "error 4",
		"arm 1", "ok",
		"file a y", "error 14",
		"list", "error 14",
		"list ", "error 4",
		"crash", "ok",
		"list", aDrv+" "+aSrc,
	)
}

func TestP23_1_Arm(t *testing.T) {
	says(t, fresh(t, 100),
		"arm", "error 4",
		"arm ", "error 4",
		"arm 1 ", "error 4",
		"arm  1", "error 4",
		"arm -1", "error 4",
		"arm +1", "error 4",
		"arm 01", "error 4",
		"arm 00", "error 4",
		"arm 0x1", "error 4",
		"arm 1_0", "error 4",
		"arm x", "error 4",
		"arm 1234567890", "error 4",
		"arm 0000000001", "error 4",
		"arm 18446744073709551617", "error 4",
		"arm 999999999", "ok",
		"file a x", aSrc,
		"arm 1", "ok",
		"arm 0", "ok",
		"file b y", bSrc,
		"arm 1", "ok",
		"eval 1", "1",
		"file b z", "error 14",
		"eval 1", "error 14",
		"arm 3", "ok",
		"crash", "ok",
		"list", bSrc+" "+aSrc,
		"make "+aText, aShown+" "+aDrv,
	)
}

func TestP23_1_Crash(t *testing.T) {
	says(t, fresh(t, 100),
		"crash", "ok",
		"crash ", "ok",
		"crash 0", "ok",
		"crash 1", "ok",
		"crash 0110", "ok",
		"crash "+strings.Repeat("1", api.MaxLine-6), "ok",
		"crash "+strings.Repeat("1", api.MaxLine-5), "error 2",
		"crash 2", "error 4",
		"crash 0110x", "error 4",
		"crash -1", "error 4",
		"crash 01 01", "error 4",
		"crash 01 ", "error 4",
		"crash  01", "error 4",
		"crash\n", "error 4",
		"Crash", "error 4",
		"crash01", "error 4",
		"list", "",
	)
}

// TestP23_1_CrashKeeps: which writes are done is as the word says; none is torn.
func TestP23_1_CrashKeeps(t *testing.T) {
	met := map[string]int{}
	for n := 1; n < 12; n++ {
		for _, word := range []string{"", " ", " 0", " 00000000000000", " 11111111111111", " 1", " 01", " 101"} {
			h := fresh(t, 100)
			says(t, h, "arm "+strconv.Itoa(n), "ok")
			if h.Line("file a x") != "error 14" {
				continue
			}
			says(t, h, "crash"+word, "ok", "verify", "0")
			there := h.Line("list")
			if there != "" && there != aSrc {
				t.Fatalf("list = %q", there)
			}
			met[word+":"+there]++
			// What is there then stays.
			says(t, h, "crash", "ok", "list", there, "file a x", aSrc, "crash", "ok", "list", aSrc)
		}
	}
	// If none is kept it is there only behind the Sync; if all are, from the last write on.
	if met[":"] == 0 || met[" 11111111111111:"+aSrc] <= met[":"+aSrc] || met[" 00000000000000:"] != met[":"] || met[" :"] != met[":"] {
		t.Errorf("%v", met)
	}
}

// TestP23_1_NotUp: while it isn't up all but arm and crash are error 14, but what is no line.
func TestP23_1_NotUp(t *testing.T) {
	h := fresh(t, 100)
	says(t, h, "file a x", aSrc, "arm 1", "ok", "file b y", "error 14")
	for _, line := range []string{
		"eval 1", "eval ", "eval )", "make 1", "build x", "build ", "file a x", "file  ", "set p " + aSrc, "set  ", "switch p 1", "back p", "drop p 1",
		"old p", "root r ", "root r " + aSrc, "collect ", "collect both", "export " + aSrc, "export ", "import ", "import 00", "verify", "list",
	} {
		says(t, h, line, "error 14")
	}
	for _, line := range []string{"", " ", "x", "eval", "list ", "switch p 01", "switch p", "import 0", "import x", "verify ", "collect", "arm x", "crash x", "tree a x"} {
		says(t, h, line, "error 4")
	}
	says(t, h, "eval "+strings.Repeat(" ", api.MaxLine), "error 2", "arm 2", "ok", "crash", "ok", "list", aSrc)
}

// TestP23_1_MaxLine: a line may have MaxLine bytes, and not one more, whatever it is.
func TestP23_1_MaxLine(t *testing.T) {
	h := fresh(t, 100)
	long := func(line string, n int) string { return line + strings.Repeat(" ", n-len(line)) }
	says(t, h,
		long("eval 7", api.MaxLine), "7",
		long("eval 7", api.MaxLine+1), "error 2",
		long("make 7", api.MaxLine), "7",
		long("make 7", api.MaxLine+1), "error 2",
		long("x", api.MaxLine), "error 4",
		long("x", api.MaxLine+1), "error 2",
		long("", api.MaxLine+1), "error 2",
		long("list", api.MaxLine), "error 4",
		long("list", 3*api.MaxLine), "error 2",
		"file a "+strings.Repeat("é", (api.MaxLine-6)/2), "error 2",
	)
	if got := h.Line("file a " + strings.Repeat("x", api.MaxLine-7)); len(got) != 34 {
		t.Errorf("a file of that many bytes: %q", got)
	}
	says(t, h, "file a "+strings.Repeat("x", api.MaxLine-6), "error 2")
}

// TestP23_1_None: lines that are none.
func TestP23_1_None(t *testing.T) {
	h := fresh(t, 100)
	for _, line := range []string{
		"", " ", "  ", "x", "ok", "error 4", "tree a x", "files a x", "fil a x", "evaluate 1", "eva 1", "listx", "list\n", "\nlist", "verify\r",
		"EVAL 1", "back\tp", "0", "1 + 1", "#", "list list", "\x00", "\xff", "new 100", "db", "up", "test", "help", "make\n1",
	} {
		says(t, h, line, "error 4")
	}
	says(t, h, "list", "", "verify", "0")
}

func TestP23_2_Example(t *testing.T) {
	runs(t, 100, "eval 1 + 1\nlist\nx", "2", "", "error 4")
}

// runs fails where the lines of a text have other answers.
func runs(t *testing.T, sectors int, text string, want ...string) {
	t.Helper()
	if l, e := shell.Run(sectors, text); e != api.OK || !slices.Equal(l, want) {
		t.Fatalf("Run(%q) = %q, %d, and not %q", text, l, e, want)
	}
}

func TestP23_2_Run(t *testing.T) {
	for _, n := range []int{math.MinInt, -1, 0, 5, api.MaxSectors + 1, math.MaxInt} {
		for _, text := range []string{"", "list", "list\nlist"} {
			if l, e := shell.Run(n, text); l != nil || e != api.ErrArg {
				t.Errorf("Run(%d, %q) = %q, %d", n, text, l, e)
			}
		}
	}
	// What parts lines ends none: one that is empty is a line, too.
	runs(t, 6, "", "error 4")
	runs(t, 6, "list", "")
	runs(t, 6, "list\n", "", "error 4")
	runs(t, 6, "\nlist", "error 4", "")
	runs(t, 6, "\n\n", "error 4", "error 4", "error 4")
	runs(t, 6, "eval 1\r\neval 2", "error 4", "2")
	runs(t, 100, "file a x\nlist\nroot r "+aSrc+"\ncollect \narm 1\nfile b y\nlist\ncrash\nlist", aSrc, aSrc, "ok", "0", "ok", "error 14", "error 14", "ok", aSrc)
	// A line that is too long is one answer, and those behind it go on.
	runs(t, 100, "eval 1\n"+strings.Repeat("x", api.MaxLine+1)+"\neval 2", "1", "error 2", "2")
	runs(t, 100, "eval "+strings.Repeat(" ", api.MaxLine-6)+"1\n"+strings.Repeat(" ", api.MaxLine), "1", "error 4")
	// Each has a new store.
	runs(t, 100, "list\nfile a x", "", aSrc)
	runs(t, 100, "list", "")
	l, e := shell.Run(100, strings.Repeat("eval 1\n", 999)+"eval 2")
	if e != api.OK || len(l) != 1000 || l[0] != "1" || l[999] != "2" {
		t.Errorf("Run of many lines = %d of them, %d", len(l), e)
	}
}

// TestP7_Example: a's derivation goes, its Out stays.
func TestP7_Example(t *testing.T) {
	says(t, fresh(t, 100),
		"make "+aText, aShown+" "+aDrv,
		"build "+aDrv, aPath,
		"set p "+aPath, "1",
		"collect ", "1 "+aDrv,
		"list", aPath,
		"crash", "ok",
		"list", aPath,
		"verify", "0",
	)
}

// TestP8_Arrives: what is exported by one line arrives by another, with all that it refers to.
func TestP8_Arrives(t *testing.T) {
	h, other := fresh(t, 200), fresh(t, 200)
	words := strings.Split(h.Line(`make (derivation { name = "n"; recipe = "write f ${`+aText+`}/f"; }).drvPath`), " ")
	out := h.Line("build " + words[2])
	p := h.Line("export " + out)
	says(t, other, "import "+p, aPath+" "+out, "list", strings.Join(slices.Sorted(slices.Values([]string{aPath, out})), " "), "export "+out, p, "verify", "0")
}
