package valid

import (
	"slices"
	"strconv"
	"strings"

	"staddle/api"
	"staddle/base"
	"staddle/naming"
	"staddle/nar"
)

// The words with which the lines of a text begin.
const (
	wordPath = "path"
	wordSum  = "sum"
	wordSize = "size"
	wordFrom = "from"
	wordRef  = "ref"
)

const (
	blank   = " "
	newLine = "\n"
)

// Form: is it what may be known of a path?
func Form(x api.Info) bool {
	return naming.Is(x.Path) && x.Size >= 0 && (x.From == "" || naming.Is(x.From)) && arePaths(x.Refs)
}

// arePaths: are they paths that rise, none twice?
func arePaths(l []string) bool {
	for i, path := range l {
		if !naming.Is(path) || i > 0 && l[i-1] >= path {
			return false
		}
	}
	return true
}

// Encode: what is known of a path, as a text.
func Encode(x api.Info) (string, api.Errno) {
	if !Form(x) {
		return "", api.ErrForm
	}
	lines := []string{
		line(wordPath, x.Path),
		line(wordSum, base.Hex(x.Sum[:])),
		line(wordSize, strconv.Itoa(x.Size)),
		line(wordFrom, x.From),
	}
	for _, path := range x.Refs {
		lines = append(lines, line(wordRef, path))
	}
	return strings.Join(lines, ""), api.OK
}

// line: a word and what it says.
func line(word, value string) string {
	return word + blank + value + newLine
}

// Decode: back.
func Decode(s string) (api.Info, api.Errno) {
	var x api.Info
	for _, said := range strings.Split(s, newLine) {
		word, value, _ := strings.Cut(said, blank)
		take(&x, word, value)
	}
	// Lines that are missing, wrong or in another order come to light here.
	if text, e := Encode(x); e != api.OK || text != s {
		return api.Info{}, api.ErrText
	}
	return x, api.OK
}

// take: what a line says is known. Of one that says nothing nothing is taken.
func take(x *api.Info, word, value string) {
	switch word {
	case wordPath:
		x.Path = value
	case wordSum:
		sum, _ := base.ReadHex(value)
		copy(x.Sum[:], sum)
	case wordSize:
		x.Size, _ = strconv.Atoi(value)
	case wordFrom:
		x.From = value
	case wordRef:
		x.Refs = append(x.Refs, value)
	}
}

// Make: what is known of a path that has that tree.
func Make(path string, t api.Tree, refs []string, from string) (api.Info, api.Errno) {
	sum, size, e := nar.Sum(t)
	if e != api.OK {
		return api.Info{}, e
	}
	x := api.Info{Path: path, Sum: sum, Size: size, Refs: rising(refs), From: from}
	if !Form(x) {
		return api.Info{}, api.ErrForm
	}
	return x, api.OK
}

// rising: some paths, sorted, each once.
func rising(l []string) []string {
	sorted := slices.Clone(l)
	slices.Sort(sorted)
	return slices.Compact(sorted)
}
