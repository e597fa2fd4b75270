package recipe_test

import (
	"reflect"
	"regexp"
	"slices"
	"strings"
	"testing"

	"staddle/api"
	"staddle/recipe"
	"staddle/samples"
)

// step: a step of a kind with some words.
func step(kind byte, words ...string) api.Step {
	return api.Step{Kind: kind, Args: words}
}

// parses fails where other steps are told of a recipe.
func parses(t *testing.T, s string, want ...api.Step) {
	t.Helper()
	l, place, e := recipe.Parse(s)
	if e != api.OK || place != 0 || len(l) != len(want) {
		t.Errorf("Parse(%.300q) = %.300q, %d, %d, and not %.300q", s, l, place, e, want)
		return
	}
	for i := range l {
		if l[i].Kind != want[i].Kind || !slices.Equal(l[i].Args, want[i].Args) {
			t.Errorf("Parse(%.300q): the step %d is %.300q, and not %.300q", s, i, l[i], want[i])
		}
	}
}

// faulty fails where a recipe has another fault, or that at another line.
func faulty(t *testing.T, s string, line int, fault api.Errno) {
	t.Helper()
	if l, place, e := recipe.Parse(s); e != fault || place != line || len(l) != 0 {
		t.Errorf("Parse(%.300q) = %.300q, %d, %d, and not %d, %d", s, l, place, e, line, fault)
	}
}

// forms: each step's name, how many words it has, and its number.
var forms = []struct {
	name string
	n    int
	kind byte
}{
	{"mkdir", 1, 1}, {"write", 2, 2}, {"append", 2, 3}, {"copy", 3, 4}, {"link", 2, 5}, {"exec", 1, 6}, {"swap", 3, 7}, {"fail", 1, 8},
}

func TestP12_1_Steps(t *testing.T) {
	parses(t, "mkdir a\nwrite a/f text\nappend a/f more\ncopy in from to\nlink l target\nexec a/f\nswap a/f old new\nfail why",
		step(api.RMkdir, "a"), step(api.RWrite, "a/f", "text"), step(api.RAppend, "a/f", "more"), step(api.RCopy, "in", "from", "to"),
		step(api.RLink, "l", "target"), step(api.RExec, "a/f"), step(api.RSwap, "a/f", "old", "new"), step(api.RFail, "why"))
	for _, f := range forms {
		for n := range 6 {
			s, empty := f.name+strings.Repeat(" w", n), f.name+strings.Repeat(` ""`, n)
			if n == f.n {
				parses(t, s, step(f.kind, slices.Repeat([]string{"w"}, n)...))
				parses(t, empty, step(f.kind, make([]string, n)...))
			} else {
				faulty(t, s, 0, api.ErrArg)
				faulty(t, empty, 0, api.ErrArg)
			}
		}
	}
	// What stands for something to Run is a word as others are.
	parses(t, "write @out@ @out@", step(api.RWrite, "@out@", "@out@"))
	if recipe.Out != "@out@" {
		t.Errorf("Out = %q", recipe.Out)
	}
}

func TestP12_1_Names(t *testing.T) {
	for _, name := range []string{
		"x", "mkdi", "mkdirs", "Mkdir", "MKDIR", "mkdir:", "mkdir\t", "mkdir\ta", "\tmkdir", "mkdir\r", "\rmkdir", "mkdir\x00", "#", "//", "@out@", "1", "RMkdir", "move", "put", "drop", "rm", "\xff", "mkdir=", "'mkdir'", `""`, `" "`, `"mkdir "`, `" mkdir"`, `"\n"`,
	} {
		for n := range 5 {
			faulty(t, name+strings.Repeat(" w", n), 0, api.ErrName)
		}
	}
	// A step's name may be in quotes.
	parses(t, `"mkdir" a`, step(api.RMkdir, "a"))
	parses(t, `  "fail"  "a"  `, step(api.RFail, "a"))
}

func TestP12_1_Lines(t *testing.T) {
	parses(t, "")
	for _, s := range []string{"\n", " ", "   ", "\n\n\n", " \n  \n", "\n "} {
		parses(t, s)
		for _, b := range []string{"fail b", "fail b\n", "fail b ", " fail b", "   fail    b   "} {
			parses(t, "fail a\n"+s+"\n"+b, step(api.RFail, "a"), step(api.RFail, "b"))
			parses(t, s+"\n"+b+"\n"+s, step(api.RFail, "b"))
		}
	}
	// Lines without words count.
	faulty(t, "\n \nfail\n", 2, api.ErrArg)
	faulty(t, "\n\n\n\n\"", 4, api.ErrText)
	faulty(t, "fail a\n\nfoo", 2, api.ErrName)
	// Nothing but 0a parts lines, nothing but 20 words.
	for _, s := range []string{"\r", "\t", "\v", "\f", "\x00", "\u0085", "\u00a0", "\u2028", ";", ","} {
		parses(t, "fail a"+s+"b", step(api.RFail, "a"+s+"b"))
		parses(t, "fail "+s, step(api.RFail, s))
		faulty(t, "fail a "+s, 0, api.ErrArg)
		faulty(t, s, 0, api.ErrName)
	}
	parses(t, "fail a\r\nfail b\r\n", step(api.RFail, "a\r"), step(api.RFail, "b\r"))
	// A new line parts lines in quotes, too.
	faulty(t, "fail \"a\nb\"", 0, api.ErrText)
	faulty(t, "fail a\nfail \"\n\"", 1, api.ErrText)
	faulty(t, "fail a\nfail \"b\\\nc\"", 1, api.ErrText)
}

func TestP12_1_Words(t *testing.T) {
	for in, word := range map[string]string{
		`a`: "a", `a/b`: "a/b", `'a'`: "'a'", `$a`: "$a", `#`: "#", `--`: "--", "\xff\xfe": "\xff\xfe", `ä`: "ä",
		`""`: "", `"a"`: "a", `"a b"`: "a b", `" "`: " ", `"  a  "`: "  a  ", `"'"`: "'", "\"\t\"": "\t", "\"\x00\xff\"": "\x00\xff", "\"\r\"": "\r",
		`"\\"`: "\\", `"\""`: "\"", `"\n"`: "\n", `"\t"`: "\t", `"\\n"`: "\\n", `"\\\n"`: "\\\n", `"\"\""`: "\"\"", `"a\nb\n"`: "a\nb\n", `"\\\\"`: "\\\\", `"\\\""`: "\\\"", `"n\tt"`: "n\tt",
		`"mkdir"`: "mkdir", `"#"`: "#",
	} {
		parses(t, "fail "+in, step(api.RFail, word))
		parses(t, "   fail   "+in+"   ", step(api.RFail, word))
		parses(t, "swap "+in+" "+in+"  "+in+"\n", step(api.RSwap, word, word, word))
		parses(t, "write x "+in+"\nwrite "+in+" y", step(api.RWrite, "x", word), step(api.RWrite, word, "y"))
	}
	for _, in := range []string{
		`"`, `"a`, `"a `, `"a\"`, `"\`, `"a\`, `"""`, `a"`, `a"b"`, `a"b`, `"a"b`, `"a""b"`, `""""`, `"a"\`, `"a"'`, "\"a\"\t", "\"a\"\r", `\`, `\\`, `\n`, `\"`, `a\`, `a\nb`, `a\ b`, `'"'`,
		`"\a"`, `"\r"`, `"\N"`, `"\0"`, `"\x41"`, `"\'"`, `"\ "`, `"\$"`, `"\/"`, "\"\\\t\"", "\"\\\xff\"", "\"\\\x00\"",
	} {
		faulty(t, "fail "+in, 0, api.ErrText)
		faulty(t, in, 0, api.ErrText)
		faulty(t, in+" fail", 0, api.ErrText)
		faulty(t, "fail a\n   "+in+"   \nfail", 1, api.ErrText)
	}
}

func TestP12_1_EveryByte(t *testing.T) {
	for b := range 256 {
		c := string([]byte{byte(b)})
		switch c {
		case "\"", "\\":
			faulty(t, "fail x"+c+"x", 0, api.ErrText)
			faulty(t, "fail \"x"+c+"x\"", 0, api.ErrText)
			parses(t, "fail \"x\\"+c+"x\"", step(api.RFail, "x"+c+"x"))
			continue
		case "\n":
			parses(t, "fail x"+c+"fail x", step(api.RFail, "x"), step(api.RFail, "x"))
			faulty(t, "fail \"x"+c+"x\"", 0, api.ErrText)
		case " ":
			faulty(t, "fail x"+c+"x", 0, api.ErrArg)
			parses(t, "fail \"x"+c+"x\"", step(api.RFail, "x"+c+"x"))
		default:
			parses(t, "fail x"+c+"x", step(api.RFail, "x"+c+"x"))
			parses(t, "fail \"x"+c+"x\"", step(api.RFail, "x"+c+"x"))
		}
		switch c {
		case "n":
			parses(t, "fail \"\\"+c+"\"", step(api.RFail, "\n"))
		case "t":
			parses(t, "fail \"\\"+c+"\"", step(api.RFail, "\t"))
		default:
			faulty(t, "fail \"\\"+c+"\"", 0, api.ErrText)
		}
	}
}

// TestP12_1_WhichFault: the first line at fault; of one line its words first, then its name, then how many words it has.
func TestP12_1_WhichFault(t *testing.T) {
	faulty(t, `foo "`, 0, api.ErrText)
	faulty(t, `fail a b c "\x"`, 0, api.ErrText)
	faulty(t, `fail a\b c`, 0, api.ErrText)
	faulty(t, "foo", 0, api.ErrName)
	faulty(t, "foo a b c d e f", 0, api.ErrName)
	lines := []string{`fail "`, "foo", "fail"}
	for i, fault := range []api.Errno{api.ErrText, api.ErrName, api.ErrArg} {
		for _, other := range lines {
			faulty(t, lines[i]+"\n"+other, 0, fault)
			faulty(t, "fail a\n"+lines[i]+"\nfail b\n"+other, 1, fault)
		}
	}
}

func TestP12_1_MaxText(t *testing.T) {
	full := "fail " + strings.Repeat("x", api.MaxText-5)
	parses(t, full, step(api.RFail, full[5:]))
	faulty(t, full+"x", 0, api.ErrLong)
	parses(t, strings.Repeat("\n", api.MaxText))
	faulty(t, strings.Repeat("\n", api.MaxText+1), 0, api.ErrLong)
	parses(t, strings.Repeat(" ", api.MaxText))
	faulty(t, strings.Repeat(" ", api.MaxText+1), 0, api.ErrLong)
	quoted := `fail "` + strings.Repeat(`\n`, (api.MaxText-7)/2)
	parses(t, quoted+`x"`, step(api.RFail, strings.Repeat("\n", (api.MaxText-7)/2)+"x"))
	faulty(t, quoted+`xx"`, 0, api.ErrLong)
	// It goes ahead of all else.
	faulty(t, "fail a\n"+strings.Repeat("\"", api.MaxText), 0, api.ErrLong)
	faulty(t, strings.Repeat("fail a\n", 100000), 0, api.ErrLong)
	faulty(t, strings.Repeat("fail a\n", api.MaxText/7)+"\"", api.MaxSteps, api.ErrLong)
	faulty(t, strings.Repeat("fail a\n", api.MaxText/7)+"\"\"", 0, api.ErrLong)
}

func TestP12_1_MaxSteps(t *testing.T) {
	most := strings.Repeat("fail a\n", api.MaxSteps)
	parses(t, most, slices.Repeat([]api.Step{step(api.RFail, "a")}, api.MaxSteps)...)
	parses(t, strings.Repeat("\n\n", 1000)+most+" \n\n", slices.Repeat([]api.Step{step(api.RFail, "a")}, api.MaxSteps)...)
	faulty(t, most+"fail a", api.MaxSteps, api.ErrLong)
	faulty(t, most+"fail a\nfail \"", api.MaxSteps, api.ErrLong)
	faulty(t, "\n"+most+"\n \nfail a\nfail a", api.MaxSteps+3, api.ErrLong)
	// Of the line that is one too many all else is asked first.
	faulty(t, most+`"`, api.MaxSteps, api.ErrText)
	faulty(t, most+"foo", api.MaxSteps, api.ErrName)
	faulty(t, most+"fail", api.MaxSteps, api.ErrArg)
	faulty(t, "fail\n"+most, 0, api.ErrArg)
}

// names: those of all steps.
func names() []string {
	var l []string
	for _, f := range forms {
		l = append(l, f.name)
	}
	return l
}

var (
	line = regexp.MustCompile(`(?s)^ *([^ "\\]+|"([^"\\]|\\[\\"nt])*")?( +([^ "\\]+|"([^"\\]|\\[\\"nt])*"))* *$`)
	word = regexp.MustCompile(`(?s)"(?:[^"\\]|\\.)*"|[^ "]+`)
)

// told is what the document says of a recipe: the steps, the line at fault, the fault.
func told(s string) ([]api.Step, int, api.Errno) {
	stands := strings.NewReplacer(`\\`, `\`, `\"`, `"`, `\n`, "\n", `\t`, "\t")
	var l []api.Step
	for i, text := range strings.Split(s, "\n") {
		if !line.MatchString(text) {
			return nil, i, api.ErrText
		}
		var found []string
		for _, w := range word.FindAllString(text, -1) {
			if w[0] == '"' {
				w = stands.Replace(w[1 : len(w)-1])
			}
			found = append(found, w)
		}
		if len(found) == 0 {
			continue
		}
		at := slices.Index(names(), found[0])
		if at < 0 {
			return nil, i, api.ErrName
		}
		if forms[at].n != len(found)-1 {
			return nil, i, api.ErrArg
		}
		l = append(l, step(forms[at].kind, found[1:]...))
	}
	return l, 0, api.OK
}

// TestP12_1_AsTold holds Parse to the document at texts that nearly are recipes.
func TestP12_1_AsTold(t *testing.T) {
	d := samples.Dice(12)
	pieces := []string{"mkdir", "fail", "exec", "write", "swap", " ", " ", " ", " ", " a", " b", "\"", "\" ", " \"", "\\", "\\n", "\\\\", "\\\"", "\\t", "\n", "\n", "\nfail a", "\xff", "x"}
	met := map[api.Errno]int{}
	for range 100000 {
		s := ""
		for range d.Roll(12) {
			s += pieces[d.Roll(len(pieces))]
		}
		want, line, e := told(s)
		if e == api.OK {
			parses(t, s, want...)
		} else {
			faulty(t, s, line, e)
		}
		met[e]++
	}
	for _, e := range []api.Errno{api.OK, api.ErrText, api.ErrName, api.ErrArg} {
		if met[e] < 2000 {
			t.Errorf("%d was met only %d times", e, met[e])
		}
	}
}

// written: steps as a recipe, each word with quotes where it must, or where dice say so.
func written(d *samples.Dice, l []api.Step) string {
	stands := strings.NewReplacer(`\`, `\\`, `"`, `\"`, "\n", `\n`)
	var s strings.Builder
	blanks := func(least int) {
		s.WriteString(strings.Repeat(" ", least+d.Roll(3)))
	}
	for _, x := range l {
		blanks(0)
		s.WriteString(names()[x.Kind-1])
		for _, word := range x.Args {
			blanks(1)
			if word == "" || strings.ContainsAny(word, " \"\\\n") || d.Roll(2) == 0 {
				word = `"` + stands.Replace(word) + `"`
			}
			s.WriteString(word)
		}
		blanks(0)
		s.WriteString("\n")
	}
	return s.String()
}

// TestP12_1_AnyWords: words of any bytes come through.
func TestP12_1_AnyWords(t *testing.T) {
	d := samples.Dice(5)
	for range 3000 {
		var l []api.Step
		for range d.Roll(12) {
			f := forms[d.Roll(len(forms))]
			x := step(f.kind)
			for range f.n {
				x.Args = append(x.Args, string(d.Bytes(d.Roll(9)))+[]string{"", `"`, `\`, "\n", " ", "\t"}[d.Roll(6)])
			}
			l = append(l, x)
		}
		parses(t, written(&d, l), l...)
	}
}

func TestP1_AnyTextEnds(t *testing.T) {
	d := samples.Dice(6)
	for n := range 3000 {
		s := string(d.Bytes(n))
		if l, place, e := recipe.Parse(s); e == api.OK && place != 0 || e != api.OK && len(l) > 0 || place > strings.Count(s, "\n") {
			t.Errorf("Parse(%q) = %q, %d, %d", s, l, place, e)
		}
	}
	for _, c := range []string{`"`, `\`, " ", "\n", `\"`, `"\`, `" `, "a ", "fail "} {
		recipe.Parse(strings.Repeat(c, api.MaxText/len(c)))
		recipe.Parse(strings.Repeat(c, 1<<20))
	}
}

// TestP2_StepsAreNewMemory: each step's words are its own.
func TestP2_StepsAreNewMemory(t *testing.T) {
	s := "swap a b c\nwrite d e\nfail f"
	want, _, _ := recipe.Parse(s)
	for range 2 {
		l, _, e := recipe.Parse(s)
		if e != api.OK || !reflect.DeepEqual(l, want) {
			t.Fatalf("Parse = %q, %d", l, e)
		}
		for i := range l {
			args := l[i].Args
			for j := range args[:cap(args)] {
				args[:cap(args)][j] = "#"
			}
			if i+1 < len(l) && !reflect.DeepEqual(l[i+1], want[i+1]) {
				t.Fatalf("the words of the step %d share memory with those ahead of them", i+1)
			}
		}
		clear(l[:cap(l)])
	}
}
