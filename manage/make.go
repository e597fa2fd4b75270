package manage

import (
	"slices"
	"strings"

	"staddle/api"
	"staddle/eval"
	"staddle/realise"
)

// evaluated: what an expression is, and the derivations that it made, by their paths.
func evaluated(v Event) (Reply, []eval.Made) {
	x, place, e := eval.Text(v.A, v.N)
	if e != api.OK {
		return Reply{E: e, N: place}, nil
	}
	return Reply{Text: x.Text}, x.Made
}

// made: what an expression is, and the derivations that it made are kept.
func (s *Store) made(v Event) Reply {
	r, left := evaluated(v)
	for len(left) > 0 {
		i := next(left)
		path, e := realise.Add(s.db, left[i].Drv)
		if e != api.OK {
			return Reply{E: e, List: r.List}
		}
		r.List = append(r.List, path)
		left = slices.Delete(left, i, i+1)
	}
	return r
}

// next: the place of the first of some derivations, by their paths, that needs none of them. There is one: what a derivation needs was made ahead of it.
func next(l []eval.Made) int {
	return slices.IndexFunc(l, func(x eval.Made) bool {
		return !slices.ContainsFunc(x.Drv.Drvs, func(need string) bool { return among(l, need) })
	})
}

// among: is a path that of one of some derivations?
func among(l []eval.Made, path string) bool {
	_, ok := slices.BinarySearchFunc(l, path, func(x eval.Made, path string) int { return strings.Compare(x.Path, path) })
	return ok
}
