package profile

import (
	"cmp"
	"slices"
	"strconv"

	"staddle/api"
	"staddle/naming"
	"staddle/valid"
)

// The directories, in the tree of a database.
const (
	profilesDir = "profiles" // for each profile a directory, with a link for each generation, by its number, to its path
	rootsDir    = "roots"    // for each root a link to its path
	nowLink     = "now"      // in a profile, to the number that counts
	under       = "/"
)

// profileAt: where a profile stands.
func profileAt(name string) string {
	return profilesDir + under + name
}

// genAt: where a generation stands.
func genAt(name string, n int) string {
	return profileAt(name) + under + strconv.Itoa(n)
}

// rootAt: where a root stands.
func rootAt(name string) string {
	return rootsDir + under + name
}

// profile is the generations of a profile, by their numbers, and the number that counts; 0: none does.
type profile struct {
	gens []Gen
	now  int
}

// found: a profile, of what stands in the tree. What others have put there that is no link of a generation is passed over.
func found(b *valid.DB, name string) (profile, api.Errno) {
	if e := fault(b, name); e != api.OK {
		return profile{}, e
	}
	t, e := b.FS().At(profileAt(name))
	if e != api.OK || t.Kind != api.Dir {
		return profile{}, api.ErrNone
	}
	var p profile
	for i, s := range t.Names {
		path, ok := kept(t.Kids[i])
		if n := number(s); ok && n > 0 {
			p.gens = append(p.gens, Gen{n, path})
		}
	}
	// The names rise by their bytes: 10 stands ahead of 9.
	slices.SortFunc(p.gens, func(x, y Gen) int { return cmp.Compare(x.N, y.N) })
	if i := slices.Index(t.Names, nowLink); i >= 0 && t.Kids[i].Kind == api.Link {
		p.now = number(string(t.Kids[i].Data))
	}
	if !p.has(p.now) {
		p.now = 0
	}
	return p, api.OK
}

// having: a profile that has a generation of a number.
func having(b *valid.DB, name string, n int) (profile, api.Errno) {
	p, e := found(b, name)
	if e != api.OK {
		return profile{}, e
	}
	if !p.has(n) {
		return profile{}, api.ErrName
	}
	return p, api.OK
}

// number: the number of a generation, of its digits; 0: these are none.
func number(s string) int {
	n, err := strconv.Atoi(s)
	if err != nil || n < 1 || strconv.Itoa(n) != s {
		return 0
	}
	return n
}

// kept: the path that a link points to.
func kept(t api.Tree) (string, bool) {
	path := string(t.Data)
	if t.Kind != api.Link || !naming.Is(path) {
		return "", false
	}
	return path, true
}

// has: is there a generation of a number?
func (p profile) has(n int) bool {
	return slices.ContainsFunc(p.gens, func(x Gen) bool { return x.N == n })
}

// greatest: the greatest number of a generation; 0: there is none.
func (p profile) greatest() int {
	if len(p.gens) == 0 {
		return 0
	}
	return p.gens[len(p.gens)-1].N
}

// profiles: the names of what may be profiles.
func profiles(b *valid.DB) []string {
	t, _ := b.FS().At(profilesDir)
	return t.Names
}

// rooted: the paths that roots keep.
func rooted(b *valid.DB) []string {
	t, _ := b.FS().At(rootsDir)
	var l []string
	for i, name := range t.Names {
		if path, ok := kept(t.Kids[i]); ok && Name(name) {
			l = append(l, path)
		}
	}
	return l
}

// lacking: the edits that make those of some directories that aren't there.
func lacking(b *valid.DB, paths ...string) []api.Edit {
	var edits []api.Edit
	for _, path := range paths {
		if _, e := b.FS().At(path); e != api.OK {
			edits = append(edits, api.Edit{Kind: api.OMkdir, Path: path})
		}
	}
	return edits
}

// link: the edit that makes a link.
func link(path, to string) api.Edit {
	return api.Edit{Kind: api.OPut, Path: path, Tree: api.Tree{Kind: api.Link, Data: []byte(to)}}
}

// count: the edit by which a generation counts.
func count(name string, n int) api.Edit {
	return link(profileAt(name)+under+nowLink, strconv.Itoa(n))
}

// drop: the edit that takes something away.
func drop(path string) api.Edit {
	return api.Edit{Kind: api.ODrop, Path: path}
}
