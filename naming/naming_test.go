package naming_test

import (
	"crypto/sha256"
	"encoding/hex"
	"strings"
	"testing"

	"staddle/api"
	"staddle/base"
	"staddle/naming"
	"staddle/samples"
)

const letters = "abcdefghijklmnopqrstuvwxyzABCDEFGHIJKLMNOPQRSTUVWXYZ0123456789"

// noughts is the signs of a digest of noughts.
const noughts = "00000000000000000000000000000000"

// names is texts, and whether each can be the name of a path.
func names() map[string]bool {
	l := map[string]bool{
		"": false, "a": true, "hello-2.1": true, "x.drv": true, "+-_?=.": true, "-": true, "--": true, "+": true, "_": true, "?": true, "=": true, "a.": true, "a..": true, "-.": true,
		".": false, "..": false, ".a": false, "..a": false, ".drv": false, ".-": false,
		"a b": false, "a/b": false, "a\x00": false, "a\n": false, "ä": false, "aä": false, "a\xff": false, "a:b": false, "a@b": false, "a~": false, "a,b": false, "[": false,
		strings.Repeat("n", api.MaxName-1):       true,
		strings.Repeat("n", api.MaxName):         true,
		strings.Repeat("n", api.MaxName+1):       false,
		strings.Repeat("n", 100000):              false,
		"a" + strings.Repeat(".", api.MaxName-1): true,
		strings.Repeat("n", api.MaxName-1) + "/": false,
		strings.Repeat("n", api.MaxName) + "/":   false,
		"." + strings.Repeat("n", api.MaxName-1): false,
		strings.Repeat("ä", api.MaxName/2):       false,
		noughts + "-a":                           true,
		noughts + "-" + noughts[:api.MaxName-33]: true,
		noughts + "-" + noughts[:api.MaxName-32]: false,
		"A" + strings.Repeat("Z", api.MaxName-1): true,
		"0" + strings.Repeat("9", api.MaxName-1): true,
		"\x00" + strings.Repeat("n", 5):          false,
		" a":                                     false,
		"a ":                                     false,
	}
	for b := range 256 {
		s := string([]byte{byte(b)})
		inside := strings.Contains(letters+"+-_?=.", s)
		l[s] = inside && s != "."
		l[s+"x"] = inside && s != "."
		l["x"+s] = inside
		l["x"+s+"y"] = inside
	}
	return l
}

func TestP6_1_Name(t *testing.T) {
	for s, ok := range names() {
		if naming.Name(s) != ok {
			t.Errorf("Name(%q) = %v", s, !ok)
		}
	}
}

func TestP6_1_PathExamples(t *testing.T) {
	var rising [20]byte
	for i := range rising {
		rising[i] = byte(i)
	}
	for _, c := range []struct {
		d          [20]byte
		name, want string
	}{
		{[20]byte{}, "a", noughts + "-a"},
		{[20]byte{1}, "a", noughts[:31] + "1-a"},
		{[20]byte{19: 0x80}, "a", "h" + noughts[1:] + "-a"},
		{rising, "hello-2.1", "2c91240g1q6hq2qa1440f1h50h1h4080-hello-2.1"},
		{rising, "-", "2c91240g1q6hq2qa1440f1h50h1h4080--"},
	} {
		if p, e := naming.Path(c.d, c.name); e != api.OK || p != c.want {
			t.Errorf("Path(%x, %s) = %s, %d", c.d, c.name, p, e)
		}
	}
	if naming.Signs != 32 || naming.Signs != base.Len(20) {
		t.Errorf("Signs = %d", naming.Signs)
	}
}

func TestP6_1_PathAndParse(t *testing.T) {
	dice := samples.Dice(6)
	for s, ok := range names() {
		for _, d := range [][20]byte{{}, [20]byte(dice.Bytes(20)), [20]byte(dice.Bytes(20))} {
			p, e := naming.Path(d, s)
			written := base.Encode(d[:]) + "-" + s
			if ok && (e != api.OK || p != written) || !ok && (e != api.ErrText || p != "") {
				t.Errorf("Path(%x, %q) = %q, %d", d, s, p, e)
			}
			got, name, e := naming.Parse(written)
			if ok && (e != api.OK || got != d || name != s) || !ok && (e != api.ErrText || got != [20]byte{} || name != "") {
				t.Errorf("Parse(%q) = %x, %q, %d", written, got, name, e)
			}
			if naming.Is(written) != ok {
				t.Errorf("Is(%q) = %v", written, !ok)
			}
		}
	}
}

func TestP6_1_ParseWrong(t *testing.T) {
	dice := samples.Dice(7)
	whole, _ := naming.Path([20]byte(dice.Bytes(20)), "n")
	wrong := []string{
		"", "-", "-a", "a", noughts, noughts + "-", noughts + "a", noughts + "a-a", noughts + "-.a", noughts[1:] + "-a", noughts + "0-a", noughts + "_a",
		" " + whole, whole + " ", whole + "\n", "/" + whole, "/staddle/" + whole, whole + "/", whole + "/a", whole + "\x00", strings.Repeat("0", 100000), strings.Repeat("-", 100),
		noughts + "-" + strings.Repeat("n", api.MaxName+1),
	}
	for n := range len(whole) {
		wrong = append(wrong, whole[:n])
	}
	for i := range naming.Signs {
		for b := range 256 {
			if s := string([]byte{byte(b)}); !strings.Contains("0123456789abcdfghijklmnpqrsvwxyz", s) {
				wrong = append(wrong, whole[:i]+s+whole[i+1:])
			}
		}
		wrong = append(wrong, whole[:i]+whole[i+1:], whole[:i]+"0"+whole[i:])
	}
	for b := range 256 {
		if b != '-' {
			wrong = append(wrong, whole[:naming.Signs]+string([]byte{byte(b)})+"n")
		}
	}
	for _, s := range wrong {
		if d, name, e := naming.Parse(s); e != api.ErrText || d != [20]byte{} || name != "" || naming.Is(s) {
			t.Errorf("Parse(%q) = %x, %q, %d", s, d, name, e)
		}
	}
}

// TestP6_1_ParseAnySign goes through all signs at all places: each stands for another digest.
func TestP6_1_ParseAnySign(t *testing.T) {
	seen := map[[20]byte]string{}
	for i := range naming.Signs {
		for _, sign := range "123456789abcdfghijklmnpqrsvwxyz" {
			s := noughts[:i] + string(sign) + noughts[i+1:] + "-a"
			d, name, e := naming.Parse(s)
			if p, _ := naming.Path(d, name); e != api.OK || p != s || seen[d] != "" {
				t.Errorf("Parse(%s) = %x, %s, %d; and so is %s", s, d, name, e, seen[d])
			}
			seen[d] = s
		}
	}
}

// made is what the document says of Make.
func made(kind string, d [32]byte, name string) string {
	sum := sha256.Sum256([]byte(kind + ":sha256:" + hex.EncodeToString(d[:]) + ":/staddle:" + name))
	folded := make([]byte, 20)
	for i, b := range sum {
		folded[i%20] ^= b
	}
	return base.Encode(folded) + "-" + name
}

func TestP6_2_MakeExamples(t *testing.T) {
	var ones [32]byte
	for i := range ones {
		ones[i] = 0xff
	}
	for _, c := range []struct {
		kind       string
		d          [32]byte
		name, want string
	}{
		{"text", sha256.Sum256(nil), "a", "zpny9x0bvqai96mym804s2dp3zsmdx0h-a"},
		{"source", sha256.Sum256([]byte("abc")), "hello-2.1", "8fpm0kxiz806agrp3ycgk6vkx1lq6ab7-hello-2.1"},
		{"output", [32]byte{}, "x.drv", "s3ldcigpifazpja8lzhkxdv9qjpqm6gl-x.drv"},
		{"", ones, "+-_?=.", "skam7n3wrn27an0f0x49qdpl3glabf28-+-_?=."},
	} {
		if p, e := naming.Make(c.kind, c.d, c.name); e != api.OK || p != c.want {
			t.Errorf("Make(%s, %x, %s) = %s, %d", c.kind, c.d, c.name, p, e)
		}
	}
}

func TestP6_2_Make(t *testing.T) {
	dice := samples.Dice(8)
	kinds := []string{"text", "source", "output", "fixed", "", ":", "a:b", "\x00\xff", strings.Repeat("k", 10000)}
	for s, ok := range names() {
		kind, d := kinds[dice.Roll(len(kinds))], [32]byte(dice.Bytes(32))
		p, e := naming.Make(kind, d, s)
		if ok && (e != api.OK || p != made(kind, d, s) || !naming.Is(p)) || !ok && (e != api.ErrText || p != "") {
			t.Errorf("Make(%.20q, %x, %q) = %q, %d", kind, d, s, p, e)
		}
	}
	for _, kind := range kinds {
		if p, e := naming.Make(kind, [32]byte{}, "a"); e != api.OK || p != made(kind, [32]byte{}, "a") {
			t.Errorf("Make(%.20q, noughts, a) = %q, %d", kind, p, e)
		}
	}
}

// TestP6_2_MakeIsOfAll changes one thing at a time: another path comes of it, and the same one where nothing changes.
func TestP6_2_MakeIsOfAll(t *testing.T) {
	seen := map[string]int{}
	add := func(kind string, d [32]byte, name string) {
		p, _ := naming.Make(kind, d, name)
		again, _ := naming.Make(kind, d, name)
		if p != again {
			t.Errorf("Make(%s, %x, %s) = %s, and then %s", kind, d, name, p, again)
		}
		seen[p[:naming.Signs]]++
	}
	add("text", [32]byte{}, "a")
	add("texT", [32]byte{}, "a")
	add("text", [32]byte{}, "b")
	for i := range 256 {
		var d [32]byte
		d[i/8] = 1 << (i % 8)
		add("text", d, "a")
	}
	if len(seen) != 259 {
		t.Errorf("259 things have %d paths", len(seen))
	}
}

func TestP1_AnyTextEnds(t *testing.T) {
	dice := samples.Dice(9)
	for n := range 300 {
		s := string(dice.Bytes(n))
		if naming.Is(s) {
			t.Errorf("%q is a path", s)
		}
		naming.Name(s)
		naming.Parse(noughts + s)
		naming.Parse(noughts + "-" + s)
		naming.Path([20]byte{}, s)
		naming.Make(s, [32]byte{}, s)
	}
}
