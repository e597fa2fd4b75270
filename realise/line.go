package realise

import (
	"slices"

	"staddle/api"
	"staddle/drv"
	"staddle/order"
	"staddle/valid"
)

// work is a derivation, and what comes of it.
type work struct {
	path string
	drv  api.Drv
	sum  [32]byte // of what it makes, as those take it that need it
	out  string
}

// line is a derivation and all that it needs, each behind those that it needs.
type line struct {
	works  []work
	places map[string]int // where in works each is, by its path
}

// lineOf: the line of a derivation.
func lineOf(b *valid.DB, path string) (*line, api.Errno) {
	drvs, e := gathered(b, path)
	if e != api.OK {
		return nil, e
	}
	paths, e := sorted(drvs)
	if e != api.OK {
		return nil, e
	}
	l := &line{places: map[string]int{}}
	for _, path := range paths {
		l.add(path, drvs[path])
	}
	return l, api.OK
}

// gathered: a derivation and all that it needs, by their paths.
func gathered(b *valid.DB, path string) (map[string]api.Drv, api.Errno) {
	drvs := map[string]api.Drv{}
	// A list that is gone through from its beginning, and no recursion: the error of what is needed nearer by is the first.
	todo := []string{path}
	for i := 0; i < len(todo); i++ {
		if _, ok := drvs[todo[i]]; ok {
			continue
		}
		d, e := Get(b, todo[i])
		if e != api.OK {
			return nil, e
		}
		drvs[todo[i]] = d
		todo = append(todo, d.Drvs...)
	}
	return drvs, api.OK
}

// sorted: the paths of some derivations, each behind those that it needs.
func sorted(drvs map[string]api.Drv) ([]string, api.Errno) {
	var names []string
	var needs [][]string
	for path, d := range drvs {
		names = append(names, path)
		needs = append(needs, d.Drvs)
	}
	g, e := order.New(names, needs) // it sorts them: it doesn't matter in which order they come
	if e != api.OK {
		return nil, e
	}
	return g.Sort()
}

// add: one derivation more; those that it needs are there.
func (l *line) add(path string, d api.Drv) {
	var sums [][32]byte
	for _, need := range d.Drvs {
		sums = append(sums, l.at(need).sum)
	}
	// Neither has an error: Get answers right derivations alone, and there is a sum for each that it needs.
	sum, _ := drv.Modulo(d, sums)
	out, _ := drv.Out(d, sums)
	l.places[path] = len(l.works)
	l.works = append(l.works, work{path, d, sum, out})
}

// at: the derivation of a path that is in the line.
func (l *line) at(path string) work {
	return l.works[l.places[path]]
}

// due: those that must be done, to do one, in their order.
func (l *line) due(b *valid.DB, path string) []work {
	needed := map[string]struct{}{path: {}}
	var due []work
	// From the end: so it is known of all that need one whether they must be done.
	for _, x := range slices.Backward(l.works) {
		if _, ok := needed[x.path]; !ok || b.Is(x.out) {
			continue
		}
		due = append(due, x)
		for _, need := range x.drv.Drvs {
			needed[need] = struct{}{}
		}
	}
	slices.Reverse(due)
	return due
}
