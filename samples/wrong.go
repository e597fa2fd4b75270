package samples

import (
	"maps"
	"strings"

	"staddle/api"
)

// Wrong: what is no tree, as it breaks one rule of the form, at its root or inside.
func Wrong() map[string]api.Tree {
	f := File("f")
	l := map[string]api.Tree{
		"no kind":                     {},
		"no kind, but data":           {Data: []byte("x")},
		"kind 4":                      {Kind: 4},
		"kind 255":                    {Kind: 255},
		"a file with names":           {Kind: api.File, Names: []string{"a"}},
		"a file with kids":            {Kind: api.File, Kids: []api.Tree{f}},
		"a file with both":            {Kind: api.File, Names: []string{"a"}, Kids: []api.Tree{f}},
		"a link to be executed":       {Kind: api.Link, Exec: true, Data: []byte("x")},
		"a link with names":           {Kind: api.Link, Data: []byte("x"), Names: []string{"a"}},
		"a link with kids":            {Kind: api.Link, Data: []byte("x"), Kids: []api.Tree{f}},
		"a link to nothing":           Link(""),
		"a link with 00":              Link("a\x00b"),
		"a link with 00 at its end":   Link("a\x00"),
		"a link with 00 ahead":        Link("\x00a"),
		"a link of 401 bytes":         Link(strings.Repeat("t", api.MaxPath+1)),
		"a directory to be executed":  {Kind: api.Dir, Exec: true},
		"a directory with data":       {Kind: api.Dir, Data: []byte("x")},
		"more names than kids":        {Kind: api.Dir, Names: []string{"a", "b"}, Kids: []api.Tree{f}},
		"names without kids":          {Kind: api.Dir, Names: []string{"a"}},
		"more kids than names":        {Kind: api.Dir, Names: []string{"a"}, Kids: []api.Tree{f, f}},
		"kids without names":          {Kind: api.Dir, Kids: []api.Tree{f}},
		"names that fall":             Dir("b", f, "a", f),
		"names that fall, behind one": Dir("a", f, "c", f, "b", f),
		"a name twice":                Dir("a", f, "a", f),
		"names by letters, not bytes": Dir("a", f, "B", f),
		"a name of 81 bytes":          Dir(strings.Repeat("n", api.MaxEntry+1), f),
		"no name":                     Dir("", f),
		"the name .":                  Dir(".", f),
		"the name ..":                 Dir("..", f),
		"a name with /":               Dir("a/b", f),
		"a name with 00":              Dir("a\x00", f),
		"a wrong last name":           Dir("a", f, "b/", f),
		"too deep, a file":            Deep(api.MaxDepth+1, f),
		"too deep, a directory":       Deep(api.MaxDepth+1, Dir()),
		"too many":                    Wide(api.MaxNodes),
		"far too many":                Wide(3 * api.MaxNodes),
		"too many, in two":            Dir("a", Wide(api.MaxNodes/2-1), "b", Wide(api.MaxNodes/2-1)),
		"too much in one":             File(strings.Repeat("x", api.MaxData+1)),
		"too much in two":             Dir("a", File(strings.Repeat("x", api.MaxData-3)), "b", File("four")),
		"too much, by a link":         Dir("a", File(strings.Repeat("x", api.MaxData)), "b", Link("y")),
	}
	for name, t := range maps.Clone(l) {
		l[name+", inside"] = Dir("a", Dir("p", f, "q", t), "b", f)
	}
	return l
}
