package lex_test

import (
	"fmt"
	"regexp"
	"runtime/debug"
	"slices"
	"strconv"
	"strings"
	"sync"
	"testing"

	"staddle/api"
	"staddle/lex"
	"staddle/samples"
)

var (
	allWords = strings.Fields("let in rec with inherit if then else assert or")
	allSigns = strings.Fields("... && || == != // ++ + - * < ! ( ) [ ] { } ; : , ? = .")
)

// told is tokens in one line: the kind, the place and the text of each.
func told(l []api.Token) string {
	var s []string
	for _, t := range l {
		s = append(s, fmt.Sprintf("%s@%d%q", [...]string{"end", "name", "word", "num", "sign", "quote", "part", "open", "close"}[t.Kind], t.At, t.Text))
	}
	return strings.Join(s, " ")
}

// gives fails where the tokens of a text are not those that are told.
func gives(t *testing.T, s, want string) {
	t.Helper()
	if l, at, e := lex.Tokens(s); told(l) != want || at != 0 || e != api.OK {
		t.Errorf("Tokens(%.60q) = %s, %d, %d, and not %s", s, told(l), at, e, want)
	}
}

// texts fails where the tokens of a text have other texts than those that are told, a blank between, less the end.
func texts(t *testing.T, s, want string) {
	t.Helper()
	l, at, e := lex.Tokens(s)
	var got []string
	for _, x := range l[:max(0, len(l)-1)] {
		got = append(got, x.Text)
		if s[x.At:x.At+len(x.Text)] != x.Text {
			t.Errorf("Tokens(%.60q): %s at %d", s, x.Text, x.At)
		}
	}
	if strings.Join(got, " ") != want || at != 0 || e != api.OK || len(l) == 0 || l[len(l)-1] != (api.Token{At: len(s)}) {
		t.Errorf("Tokens(%.60q) = %s, %d, %d, and not %s", s, told(l), at, e, want)
	}
}

// fails fails where a text has not the fault that it has, at its place.
func fails(t *testing.T, s string, place int, want api.Errno) {
	t.Helper()
	if l, at, e := lex.Tokens(s); len(l) != 0 || at != place || e != want {
		t.Errorf("Tokens(%.60q) = %.300s, %d, %d, and not %d, %d", s, told(l), at, e, place, want)
	}
}

func TestP8_1_Example(t *testing.T) {
	gives(t, `"a${b}"`, `quote@0"\"" part@1"a" open@2"${" name@4"b" close@5"}" quote@6"\"" end@7""`)
	fails(t, "1x", 1, api.ErrText)
}

func TestP8_1_Blanks(t *testing.T) {
	for _, s := range []string{"", " ", "\n", "\t", " \n\t ", "#", "# x", "#\n", "##\n#\n", " # \" ${ \\q 1x \x00\xff\r", "#\n #", strings.Repeat(" ", api.MaxSource), "#" + strings.Repeat("$", api.MaxSource-1)} {
		gives(t, s, fmt.Sprintf(`end@%d""`, len(s)))
	}
	gives(t, " a\n\tb #c\nd# e", `name@1"a" name@4"b" name@9"d" end@13""`)
	gives(t, "a#", `name@0"a" end@2""`)
	gives(t, "1#a\n2", `num@0"1" num@4"2" end@5""`)
	for b := range 256 {
		if c := string([]byte{byte(b)}); strings.Contains(" \n\t", c) {
			gives(t, c+"1"+c+c+"2"+c, `num@1"1" num@4"2" end@6""`)
		}
	}
}

// first is what is told of a text of one byte, or a fault at it.
func first(c byte) string {
	s := string([]byte{c})
	switch {
	case strings.Contains(" \n\t#", s):
		return `end@1""`
	case strings.Contains("abcdefghijklmnopqrstuvwxyzABCDEFGHIJKLMNOPQRSTUVWXYZ_", s):
		return fmt.Sprintf(`name@0%q end@1""`, s)
	case strings.Contains("0123456789", s):
		return fmt.Sprintf(`num@0%q end@1""`, s)
	case slices.Contains(allSigns, s):
		return fmt.Sprintf(`sign@0%q end@1""`, s)
	}
	return ""
}

func TestP8_1_EachByte(t *testing.T) {
	for b := range 256 {
		c := byte(b)
		s := string([]byte{c})
		if c == '"' {
			fails(t, s, 1, api.ErrText)
		} else if want := first(c); want != "" {
			gives(t, s, want)
		} else {
			fails(t, s, 0, api.ErrText)
			fails(t, s+"a", 0, api.ErrText)
			fails(t, "[ "+s, 2, api.ErrText)
			fails(t, "\"${"+s+"}\"", 3, api.ErrText)
			fails(t, "# x\n"+s+" 1x", 4, api.ErrText)
		}
		gives(t, "#"+s, `end@2""`)
	}
	for _, s := range []string{"&", "|", "/", "& &", "| |", "/ /", "&|", "|&", "/*", "%", "@", "\\", "$", "${", "'", "~", "^", "`", ">", ">=", "ä", "\r", "\v", "\x00", "\x7f", "\u00a0", "\u2003"} {
		fails(t, s, 0, api.ErrText)
	}
	for _, s := range []string{"&&&", "|||", "///"} {
		fails(t, s, 2, api.ErrText)
	}
}

func TestP8_1_Names(t *testing.T) {
	for b := range 256 {
		s := string([]byte{byte(b)})
		inside := strings.Contains("abcdefghijklmnopqrstuvwxyzABCDEFGHIJKLMNOPQRSTUVWXYZ_0123456789'-", s)
		if inside {
			gives(t, "x"+s, fmt.Sprintf(`name@0%q end@2""`, "x"+s))
			gives(t, "_"+s+s, fmt.Sprintf(`name@0%q end@3""`, "_"+s+s))
		} else if l, _, e := lex.Tokens("x" + s + "\""); e == api.OK && l[0].Text != "x" || s != "#" && s != "\"" && e == api.OK {
			t.Errorf("a name with %q: %s, %d", s, told(l), e)
		}
	}
	for _, s := range []string{"a", "A", "_", "__", "z9", "a'", "a''b", "a-", "a--b", "a-1", "_-", "_'", "in-", "let'", "or_", "inx", "lets", "If", "LET", "rec1", "true", "null", "toString", strings.Repeat("n", api.MaxSource)} {
		gives(t, s, fmt.Sprintf(`name@0%q end@%d""`, s, len(s)))
	}
	texts(t, "a.b a,b a:b a+b a<b a=b a?b", "a . b a , b a : b a + b a < b a = b a ? b")
	texts(t, "a-b a -b a- b a - b", "a-b a - b a- b a - b")
	fails(t, "a 'b", 2, api.ErrText)
	fails(t, "'", 0, api.ErrText)
	fails(t, "aä", 1, api.ErrText)
}

func TestP8_1_Words(t *testing.T) {
	for _, word := range allWords {
		gives(t, word, fmt.Sprintf(`word@0%q end@%d""`, word, len(word)))
		gives(t, " "+word+" x", fmt.Sprintf(`word@1%q name@%d"x" end@%d""`, word, len(word)+2, len(word)+3))
		for _, s := range []string{word + "x", word + "-", word + "'", word + "_", word + "1", word + word, "x" + word, "_" + word, word[:1] + "-" + word[1:], strings.ToUpper(word), strings.ToUpper(word[:1]) + word[1:], word[:len(word)-1]} {
			if !slices.Contains(allWords, s) {
				gives(t, s, fmt.Sprintf(`name@0%q end@%d""`, s, len(s)))
			}
		}
		gives(t, `"`+word+`"`, fmt.Sprintf(`quote@0"\"" part@1%q quote@%d"\"" end@%d""`, word, len(word)+1, len(word)+2))
	}
}

func TestP8_1_Numbers(t *testing.T) {
	for _, s := range []string{"0", "1", "007", "9223372036854775807", strings.Repeat("0", 100) + "9223372036854775807", strings.Repeat("0", api.MaxSource), "1234567890"} {
		gives(t, s, fmt.Sprintf(`num@0%q end@%d""`, s, len(s)))
		gives(t, " "+s[:min(len(s), 300)]+" ", fmt.Sprintf(`num@1%q end@%d""`, s[:min(len(s), 300)], min(len(s), 300)+2))
	}
	for _, s := range []string{"9223372036854775808", "9223372036854775810", "10000000000000000000", "18446744073709551615", "18446744073709551616", "18446744073709551617", "09223372036854775808", strings.Repeat("9", api.MaxSource)} {
		fails(t, s, 0, api.ErrRange)
		if len(s) < 100 {
			fails(t, "- "+s+" 1x", 2, api.ErrRange)
			fails(t, s+"'", 0, api.ErrRange)
			fails(t, s+".", 0, api.ErrRange)
			fails(t, s+"x", len(s), api.ErrText)
			fails(t, s+"Z1", len(s), api.ErrText)
			fails(t, s+"_", len(s), api.ErrText)
			fails(t, "1x "+s, 1, api.ErrText)
		}
	}
	for c := range 256 {
		s := string([]byte{byte(c)})
		if strings.Contains("abcdefghijklmnopqrstuvwxyzABCDEFGHIJKLMNOPQRSTUVWXYZ_", s) {
			fails(t, "1"+s, 1, api.ErrText)
			fails(t, " 1234"+s+"5", 5, api.ErrText)
		}
	}
	texts(t, "1-2 1+2 1.2 1...2 1(2 1[", "1 - 2 1 + 2 1 . 2 1 ... 2 1 ( 2 1 [")
	fails(t, "1'", 1, api.ErrText)
	fails(t, "1ä", 1, api.ErrText)
	gives(t, `1""`, `num@0"1" quote@1"\"" quote@2"\"" end@3""`)
}

func TestP8_1_Signs(t *testing.T) {
	for _, a := range allSigns {
		gives(t, a, fmt.Sprintf(`sign@0%q end@%d""`, a, len(a)))
		for _, b := range allSigns {
			gives(t, a+" "+b, fmt.Sprintf(`sign@0%q sign@%d%q end@%d""`, a, len(a)+1, b, len(a)+1+len(b)))
		}
		gives(t, "x "+a+"1", fmt.Sprintf(`name@0"x" sign@2%q num@%d"1" end@%d""`, a, len(a)+2, len(a)+3))
	}
	texts(t, "+++", "++ +")
	texts(t, "++++", "++ ++")
	texts(t, "===", "== =")
	texts(t, "!==", "!= =")
	texts(t, "=!=", "= !=")
	texts(t, "!!=", "! !=")
	texts(t, "==!=", "== !=")
	texts(t, "<=", "< =")
	texts(t, "..", ". .")
	texts(t, "....", "... .")
	texts(t, ".....", "... . .")
	texts(t, "......", "... ...")
	texts(t, "//*", "// *")
	texts(t, "}{", "} {")
	texts(t, "}}}", "} } }")
	texts(t, "--", "- -")
	texts(t, "**", "* *")
	texts(t, "&&||", "&& ||")
}

func TestP8_1_Strings(t *testing.T) {
	gives(t, `""`, `quote@0"\"" quote@1"\"" end@2""`)
	gives(t, ` "" ""`, `quote@1"\"" quote@2"\"" quote@4"\"" quote@5"\"" end@6""`)
	gives(t, `""""`, `quote@0"\"" quote@1"\"" quote@2"\"" quote@3"\"" end@4""`)
	gives(t, `" # x "`, `quote@0"\"" part@1" # x " quote@6"\"" end@7""`)
	gives(t, "\" \n\t\r\x00\xff{}\"", `quote@0"\"" part@1" \n\t\r\x00\xff{}" quote@9"\"" end@10""`)
	gives(t, `"\n\"\\\$\t"x`, `quote@0"\"" part@1"\n\"\\$\t" quote@11"\"" name@12"x" end@13""`)
	gives(t, `"\${a}"`, `quote@0"\"" part@1"${a}" quote@6"\"" end@7""`)
	gives(t, `"\\${a}"`, `quote@0"\"" part@1"\\" open@3"${" name@5"a" close@6"}" quote@7"\"" end@8""`)
	gives(t, `"$"`, `quote@0"\"" part@1"$" quote@2"\"" end@3""`)
	gives(t, `"$$"`, `quote@0"\"" part@1"$$" quote@3"\"" end@4""`)
	gives(t, `"$a{"`, `quote@0"\"" part@1"$a{" quote@4"\"" end@5""`)
	gives(t, `"$\n{"`, `quote@0"\"" part@1"$\n{" quote@5"\"" end@6""`)
	gives(t, `"$${a}"`, `quote@0"\"" part@1"$" open@2"${" name@4"a" close@5"}" quote@6"\"" end@7""`)
	gives(t, `"\$${a}"`, `quote@0"\"" part@1"$" open@3"${" name@5"a" close@6"}" quote@7"\"" end@8""`)
	gives(t, `"}"`, `quote@0"\"" part@1"}" quote@2"\"" end@3""`)
	for b := range 256 {
		c := byte(b)
		s := string([]byte{c})
		switch c {
		case '"', '\\':
			gives(t, `"x\`+s+`y"`, fmt.Sprintf(`quote@0"\"" part@1%q quote@5"\"" end@6""`, "x"+s+"y"))
		case '$':
			gives(t, `"x\`+s+`y"`, `quote@0"\"" part@1"x$y" quote@5"\"" end@6""`)
			gives(t, `"x`+s+`y"`, `quote@0"\"" part@1"x$y" quote@4"\"" end@5""`)
		case 'n', 't':
			gives(t, `"x\`+s+`y"`, fmt.Sprintf(`quote@0"\"" part@1%q quote@5"\"" end@6""`, "x"+map[byte]string{'n': "\n", 't': "\t"}[c]+"y"))
			fallthrough
		default:
			gives(t, `"x`+s+`y"`, fmt.Sprintf(`quote@0"\"" part@1%q quote@4"\"" end@5""`, "x"+s+"y"))
			if c != 'n' && c != 't' {
				fails(t, `"x\`+s+`y"`, 3, api.ErrText)
				fails(t, `"x\`+s, 3, api.ErrText)
			}
		}
	}
}

func TestP8_1_PutIn(t *testing.T) {
	gives(t, `"${}"`, `quote@0"\"" open@1"${" close@3"}" quote@4"\"" end@5""`)
	gives(t, `"${ # }"
}"`, `quote@0"\"" open@1"${" close@9"}" quote@10"\"" end@11""`)
	gives(t, `"${{}}"`, `quote@0"\"" open@1"${" sign@3"{" sign@4"}" close@5"}" quote@6"\"" end@7""`)
	gives(t, `"${{{}{}}}}"`, `quote@0"\"" open@1"${" sign@3"{" sign@4"{" sign@5"}" sign@6"{" sign@7"}" sign@8"}" close@9"}" part@10"}" quote@11"\"" end@12""`)
	gives(t, `"${"}"}"`, `quote@0"\"" open@1"${" quote@3"\"" part@4"}" quote@5"\"" close@6"}" quote@7"\"" end@8""`)
	gives(t, `"a${"b${c}d"}e${f}"`, `quote@0"\"" part@1"a" open@2"${" quote@4"\"" part@5"b" open@6"${" name@8"c" close@9"}" part@10"d" quote@11"\"" close@12"}" part@13"e" open@14"${" name@16"f" close@17"}" quote@18"\"" end@19""`)
	gives(t, `"${a}${b}"`, `quote@0"\"" open@1"${" name@3"a" close@4"}" open@5"${" name@7"b" close@8"}" quote@9"\"" end@10""`)
	// A } ends what is put in where no { of its own string is open; those around don't count.
	gives(t, `{"${{"${{}}"}}"}`, `sign@0"{" quote@1"\"" open@2"${" sign@4"{" quote@5"\"" open@6"${" sign@8"{" sign@9"}" close@10"}" quote@11"\"" sign@12"}" close@13"}" quote@14"\"" sign@15"}" end@16""`)
	gives(t, `}"${}"}`, `sign@0"}" quote@1"\"" open@2"${" close@4"}" quote@5"\"" sign@6"}" end@7""`)
	gives(t, `"${(}"`, `quote@0"\"" open@1"${" sign@3"(" close@4"}" quote@5"\"" end@6""`)
	gives(t, `"${...}"`, `quote@0"\"" open@1"${" sign@3"..." close@6"}" quote@7"\"" end@8""`)
	gives(t, `{ "${a}" }`, `sign@0"{" quote@2"\"" open@3"${" name@5"a" close@6"}" quote@7"\"" sign@9"}" end@10""`)
	gives(t, `"${ let }"`, `quote@0"\"" open@1"${" word@4"let" close@8"}" quote@9"\"" end@10""`)
}

func TestP8_1_TheEnd(t *testing.T) {
	for _, s := range []string{`"`, `"a`, `"$`, `"${`, `"${a`, `"${a}`, `"${"`, `"${"a"`, `"${"${a}"`, `"${"${a}"}`, `"${{}`, `"${{`, `"${#`, `"${a # }"`, `"${ `, `"\n`, `"\`, `"a\`, `"\\\`, `""" `, `a "b`, `"${a}b`, `"${"a}"`, `{"${{}"}`} {
		fails(t, s, len(s), api.ErrText)
	}
	fails(t, `"\q`, 2, api.ErrText)
	fails(t, `"${1x`, 4, api.ErrText)
	fails(t, `"${%`, 3, api.ErrText)
	fails(t, `"${9223372036854775808`, 3, api.ErrRange)
	fails(t, `"${'}"`, 3, api.ErrText)
	fails(t, `"${\n}"`, 3, api.ErrText)
	fails(t, `"${$}"`, 3, api.ErrText)
}

func TestP8_1_TheFirstFault(t *testing.T) {
	faults := map[string][2]int{"1x": {1, 4}, "%": {0, 4}, `"\q"`: {2, 4}, "9223372036854775808": {0, 13}, "&": {0, 4}, `"${'`: {3, 4}}
	for a, want := range faults {
		for b := range faults {
			fails(t, a+" "+b, want[0], api.Errno(want[1]))
			fails(t, "x [ "+a+" y\n"+b+b, 4+want[0], api.Errno(want[1]))
			fails(t, `"p${ `+a+" "+b, 5+want[0], api.Errno(want[1]))
		}
	}
}

func TestP8_1_TooLong(t *testing.T) {
	for _, s := range []string{" ", "x", "1", "#", "+", "%", "&", "\\", "\x00", "(", "}", "a b ", "[]", "${"} {
		long := strings.Repeat(s, api.MaxSource+1)
		fails(t, long[:api.MaxSource+1], 0, api.ErrLong)
		fails(t, long, 0, api.ErrLong)
		if l, _, e := lex.Tokens(long[:api.MaxSource]); e == api.ErrLong {
			t.Errorf("%q at the limit: %d tokens, %d", s, len(l), e)
		}
	}
	fails(t, `"`+strings.Repeat("x", api.MaxSource-1)+`"`, 0, api.ErrLong)
	fails(t, "1x"+strings.Repeat(" ", api.MaxSource), 0, api.ErrLong)
	fails(t, strings.Repeat("9", api.MaxSource+1), 0, api.ErrLong)
	fails(t, `"`+strings.Repeat("x", api.MaxSource), 0, api.ErrLong)
	fails(t, strings.Repeat(" ", 10_000_000), 0, api.ErrLong)
	gives(t, strings.Repeat(" ", api.MaxSource-1)+"x", fmt.Sprintf(`name@%d"x" end@%d""`, api.MaxSource-1, api.MaxSource))
	gives(t, `"`+strings.Repeat("x", api.MaxSource-2)+`"`, fmt.Sprintf(`quote@0"\"" part@1%q quote@%d"\"" end@%d""`, strings.Repeat("x", api.MaxSource-2), api.MaxSource-1, api.MaxSource))
	gives(t, `"`+strings.Repeat(`\\`, api.MaxSource/2-1)+`"`, fmt.Sprintf(`quote@0"\"" part@1%q quote@%d"\"" end@%d""`, strings.Repeat(`\`, api.MaxSource/2-1), api.MaxSource-1, api.MaxSource))
	fails(t, strings.Repeat(" ", api.MaxSource-1)+"%", api.MaxSource-1, api.ErrText)
	fails(t, strings.Repeat(" ", api.MaxSource-1)+`"`, api.MaxSource, api.ErrText)
	if l, _, e := lex.Tokens(strings.Repeat(".", api.MaxSource)); e != api.OK || len(l) != 2669 {
		t.Errorf("8000 points: %d tokens, %d", len(l), e)
	}
	if l, _, e := lex.Tokens(strings.Repeat("}", api.MaxSource)); e != api.OK || len(l) != api.MaxSource+1 {
		t.Errorf("8000 brackets: %d tokens, %d", len(l), e)
	}
}

func TestP1_Deep(t *testing.T) {
	defer debug.SetMaxStack(debug.SetMaxStack(1 << 20))
	fails(t, strings.Repeat(`"${`, api.MaxSource/3), api.MaxSource/3*3, api.ErrText)
	fails(t, `"${`+strings.Repeat("{", api.MaxSource-3), api.MaxSource, api.ErrText)
	n := api.MaxSource / 5
	l, at, e := lex.Tokens(strings.Repeat(`"${`, n) + strings.Repeat(`}"`, n))
	if at != 0 || e != api.OK || len(l) != 4*n+1 {
		t.Errorf("strings within strings: %d tokens, %d, %d", len(l), at, e)
	}
	for i, x := range l {
		want := api.TQuote
		if i == 4*n {
			want = api.TEnd
		} else if i < 2*n && i%2 == 1 {
			want = api.TOpen
		} else if i >= 2*n && i%2 == 0 {
			want = api.TClose
		}
		if x.Kind != want {
			t.Fatalf("strings within strings: the token %d is of kind %d", i, x.Kind)
		}
	}
}

// model is a second lexer: it goes down into what is put into strings, and takes tokens by what they look like.
type model struct {
	s    string
	at   int
	list []api.Token
}

type modelFault struct {
	at int
	e  api.Errno
}

var looks = []struct {
	kind byte
	is   *regexp.Regexp
}{
	{99, regexp.MustCompile(`^(?:[ \n\t]|#[^\n]*)+`)},
	{api.TName, regexp.MustCompile(`^[A-Za-z_][A-Za-z_0-9'-]*`)},
	{api.TNum, regexp.MustCompile(`^[0-9]+[A-Za-z_]?`)},
	{api.TQuote, regexp.MustCompile(`^"`)},
	{api.TSign, regexp.MustCompile(`^(?:\.\.\.|&&|\|\||==|!=|//|\+\+|[-+*<!()\[\]{};:,?=.])`)},
}

func modelTokens(s string) (l []api.Token, at int, e api.Errno) {
	if len(s) > api.MaxSource {
		return nil, 0, api.ErrLong
	}
	m := &model{s: s}
	defer func() {
		if f, ok := recover().(modelFault); ok {
			l, at, e = nil, f.at, f.e
		}
	}()
	m.code(false)
	m.take(api.TEnd, "")
	return m.list, 0, api.OK
}

func (m *model) take(kind byte, text string) {
	m.list = append(m.list, api.Token{Kind: kind, Text: text, At: m.at})
	m.at += len(text)
}

// code goes up to the end, or ahead of the } that ends what is put in.
func (m *model) code(put bool) {
	open := 0
	for m.at < len(m.s) {
		if put && open == 0 && m.s[m.at] == '}' {
			return
		}
		text := m.one()
		open += map[string]int{"{": 1, "}": -1}[text]
	}
	if put {
		panic(modelFault{m.at, api.ErrText})
	}
}

// one takes the next token, or what stands between, and answers a sign.
func (m *model) one() string {
	for _, look := range looks {
		text := look.is.FindString(m.s[m.at:])
		if text == "" {
			continue
		}
		switch look.kind {
		case 99:
			m.at += len(text)
		case api.TName:
			kind := api.TName
			if slices.Contains(allWords, text) {
				kind = api.TWord
			}
			m.take(kind, text)
		case api.TNum:
			m.number(text)
		case api.TQuote:
			m.quoted()
		case api.TSign:
			m.take(api.TSign, text)
			return text
		}
		return ""
	}
	panic(modelFault{m.at, api.ErrText})
}

func (m *model) number(text string) {
	if last := text[len(text)-1]; last < '0' || last > '9' {
		panic(modelFault{m.at + len(text) - 1, api.ErrText})
	}
	if _, err := strconv.ParseInt(text, 10, 64); err != nil {
		panic(modelFault{m.at, api.ErrRange})
	}
	m.take(api.TNum, text)
}

func (m *model) quoted() {
	m.take(api.TQuote, `"`)
	for {
		from := m.at
		text := m.plain()
		if text != "" {
			m.list = append(m.list, api.Token{Kind: api.TPart, Text: text, At: from})
		}
		if strings.HasPrefix(m.s[m.at:], `"`) {
			m.take(api.TQuote, `"`)
			return
		}
		m.take(api.TOpen, "${")
		m.code(true)
		m.take(api.TClose, "}")
	}
}

// plain is what a part stands for.
func (m *model) plain() string {
	text := ""
	for ; ; m.at++ {
		rest := m.s[m.at:]
		switch {
		case rest == "":
			panic(modelFault{m.at, api.ErrText})
		case rest[0] == '"' || len(rest) > 1 && rest[:2] == "${":
			return text
		case rest[0] != '\\':
			text += rest[:1]
			continue
		}
		m.at++
		if len(rest) == 1 || !strings.Contains(`n"\$t`, rest[1:2]) {
			panic(modelFault{m.at, api.ErrText})
		}
		text += strings.NewReplacer("n", "\n", "t", "\t").Replace(rest[1:2])
	}
}

// holds fails where the two lexers answer otherwise.
func holds(t *testing.T, s string) {
	t.Helper()
	l, at, e := lex.Tokens(s)
	m, place, want := modelTokens(s)
	if !slices.Equal(l, m) || at != place || e != want {
		t.Fatalf("Tokens(%q) = %s, %d, %d, and not %s, %d, %d", s, told(l), at, e, told(m), place, want)
	}
}

func TestP8_1_Model(t *testing.T) {
	bits := append(append([]string{
		"a", "b1", "x-y", "1", "23", "0", "9223372036854775807", "9223372036854775808", `"`, `"`, `"`, "${", "${", "}", "}", "{", "$", "\\", `\n`, `\$`, `\"`, `\\`, `\q`,
		"#", "\n", " ", " ", " ", "\t", "'", "_", "\xff", "\x00", "&", "|", "/", `""`, `"a"`, `"${`, `}"`, `"x${y}z"`, "\r", "%", "ä",
	}, allSigns...), allWords...)
	d := samples.Dice(8)
	good := 0
	for range 60000 {
		var s strings.Builder
		for range d.Roll(14) {
			s.WriteString(bits[d.Roll(len(bits))])
			if d.Roll(3) == 0 {
				s.WriteByte(' ')
			}
		}
		holds(t, s.String())
		if l, _, e := lex.Tokens(s.String()); e == api.OK && len(l) > 5 {
			good++
		}
	}
	if good < 1000 {
		t.Errorf("only %d of the texts are right", good)
	}
	for range 20000 {
		holds(t, string(d.Bytes(d.Roll(6))))
	}
}

// whole is a text with something of everything.
const whole = `{ a ? 1, ... }: let x = "p\n${ { y = "q${a}\$"; }.y or z' }r"; in # c
 if a-b == 12 && !c || [ 1 (2) ] != rec { inherit (e) f; } then with s; -1 ++ 2 // 3 else assert a < b; "" + * 4`

func TestP8_1_AnyByteChanged(t *testing.T) {
	holds(t, whole)
	if _, _, e := lex.Tokens(whole); e != api.OK {
		t.Fatalf("the text itself: %d", e)
	}
	for i := range whole {
		holds(t, whole[:i])
		holds(t, whole[i:])
		holds(t, whole[:i]+whole[i+1:])
		for _, c := range []byte("a_0'-\"\\$n{}#\n \t.&=!/+%\x00\xff") {
			holds(t, whole[:i]+string([]byte{c})+whole[i+1:])
			holds(t, whole[:i]+string([]byte{c})+whole[i:])
		}
	}
}

// TestP2_Again asks at one time, and behind other calls.
func TestP2_Again(t *testing.T) {
	want, _, _ := lex.Tokens(whole)
	var all sync.WaitGroup
	for i := range 8 {
		all.Go(func() {
			for range 50 {
				fails(t, "x "+strings.Repeat("%", i+1), 2, api.ErrText)
				if l, at, e := lex.Tokens(whole); !slices.Equal(l, want) || at != 0 || e != api.OK {
					t.Errorf("Tokens answers otherwise: %d, %d", at, e)
				}
			}
		})
	}
	all.Wait()
}

func TestP2_NewMemory(t *testing.T) {
	a, _, _ := lex.Tokens(whole)
	b, _, _ := lex.Tokens(whole)
	was := told(b)
	for i := range a[:cap(a)] {
		a[:cap(a)][i] = api.Token{Kind: api.TWord, Text: "#", At: -1}
	}
	c, _, _ := lex.Tokens(whole)
	if told(b) != was || told(c) != was {
		t.Error("answers share memory")
	}
}
