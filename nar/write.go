package nar

import "staddle/api"

// writer is an archive that grows.
type writer struct {
	archive []byte
}

// put writes strings.
func (w *writer) put(list ...string) {
	for _, s := range list {
		for i := range unit {
			w.archive = append(w.archive, byte(uint64(len(s))>>(8*i)))
		}
		w.archive = append(w.archive, s...)
		for range padding(len(s)) {
			w.archive = append(w.archive, 0)
		}
	}
}

// tree writes a tree and all in it.
func (w *writer) tree(t api.Tree) {
	w.put("(", "type")
	switch t.Kind {
	case api.File:
		w.put("regular")
		if t.Exec {
			w.put("executable", "")
		}
		w.put("contents", string(t.Data))
	case api.Link:
		w.put("symlink", "target", string(t.Data))
	case api.Dir:
		w.put("directory")
		for i, name := range t.Names {
			w.put("entry", "(", "name", name, "node")
			w.tree(t.Kids[i])
			w.put(")")
		}
	}
	w.put(")")
}
