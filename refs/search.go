package refs

import (
	"slices"

	"staddle/naming"
)

// digest is a path's digest in its signs, as it stands in bytes.
type digest [naming.Signs]byte

// search is which paths are looked for, and which of them have been met.
type search struct {
	paths  []target
	places map[digest]int // where in paths the one with a digest is
	signs  [256]bool      // the bytes that stand in one of the digests
}

// target is a path that is looked for.
type target struct {
	path string
	met  bool
}

// newSearch: nothing has been met yet of some paths; what is no path isn't looked for.
func newSearch(paths []string) *search {
	s := &search{places: map[digest]int{}}
	sorted := slices.Clone(paths)
	slices.Sort(sorted)
	for _, path := range sorted {
		if naming.Is(path) {
			s.add(path)
		}
	}
	return s
}

// add: one path more, which isn't less than those that are there.
func (s *search) add(path string) {
	d := digest([]byte(path[:naming.Signs]))
	if _, ok := s.places[d]; ok {
		return // the one that is there is the least
	}
	s.places[d] = len(s.paths)
	s.paths = append(s.paths, target{path: path})
	for _, sign := range d {
		s.signs[sign] = true
	}
}

// look goes through some bytes.
func (s *search) look(p []byte) {
	run := 0 // how many bytes up to here could all be of one digest: most places are done with by that, and need no look at the map
	for i, b := range p {
		if !s.signs[b] {
			run = 0
			continue
		}
		run++
		if run < naming.Signs {
			continue
		}
		if place, ok := s.places[digest(p[i+1-naming.Signs:i+1])]; ok {
			s.paths[place].met = true
		}
	}
}

// met: the paths that have been met, rising.
func (s *search) met() []string {
	var l []string
	for _, t := range s.paths {
		if t.met {
			l = append(l, t.path)
		}
	}
	return l
}
