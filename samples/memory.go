package samples

import (
	"bytes"
	"slices"

	"staddle/api"
	"staddle/tree"
)

// Roomy: the same tree with spare room, and something in it, behind each of its lists.
func Roomy(t api.Tree) api.Tree {
	data := append(bytes.Clone(t.Data), "spare"...)
	names := append(slices.Clone(t.Names), "spare", "room")
	kids := append(slices.Clone(t.Kids), File("spare"))
	for i := range t.Kids {
		kids[i] = Roomy(t.Kids[i])
	}
	t.Data, t.Names, t.Kids = data[:len(t.Data)], names[:len(t.Names)], kids[:len(t.Kids)]
	return t
}

// Spoil writes over all of a tree's lists, and over their spare room.
func Spoil(t api.Tree) {
	for _, kid := range t.Kids {
		Spoil(kid)
	}
	for i := range t.Data[:cap(t.Data)] {
		t.Data[:cap(t.Data)][i] = '#'
	}
	for i := range t.Names[:cap(t.Names)] {
		t.Names[:cap(t.Names)][i] = "#"
	}
	for i := range t.Kids[:cap(t.Kids)] {
		t.Kids[:cap(t.Kids)][i] = Link("#")
	}
}

// Intact: is a tree that Roomy made still as it was, its spare room too?
func Intact(t, was api.Tree) bool {
	if !tree.Same(t, was) {
		return false
	}
	d, n, k := t.Data, t.Names, t.Kids
	if string(d[len(d):len(d)+5]) != "spare" || !slices.Equal(n[len(n):len(n)+2], []string{"spare", "room"}) || !tree.Same(k[:len(k)+1][len(k)], File("spare")) {
		return false
	}
	for i := range t.Kids {
		if !Intact(t.Kids[i], was.Kids[i]) {
			return false
		}
	}
	return true
}
