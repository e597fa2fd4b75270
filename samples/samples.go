// Package samples makes trees, stores, and falls of the power, for the tests of other packages. The program itself doesn't use it.
package samples

import (
	"slices"
	"strconv"

	"staddle/api"
)

// File: a file.
func File(data string) api.Tree {
	return api.Tree{Kind: api.File, Data: []byte(data)}
}

// Tool: a file to be executed.
func Tool(data string) api.Tree {
	return api.Tree{Kind: api.File, Exec: true, Data: []byte(data)}
}

// Link: a symbolic link.
func Link(target string) api.Tree {
	return api.Tree{Kind: api.Link, Data: []byte(target)}
}

// Dir: a directory with what is handed in, by turns a name and a tree; they stand as they come, be it a tree then or not.
func Dir(list ...any) api.Tree {
	t := api.Tree{Kind: api.Dir}
	for i := 0; i < len(list); i += 2 {
		t.Names = append(t.Names, list[i].(string))
		t.Kids = append(t.Kids, list[i+1].(api.Tree))
	}
	return t
}

// Wide: a directory with n empty files.
func Wide(n int) api.Tree {
	t := api.Tree{Kind: api.Dir}
	for i := range n {
		t.Names = append(t.Names, strconv.Itoa(1000000+i))
		t.Kids = append(t.Kids, File(""))
	}
	return t
}

// Deep: t at the depth n, in directories whose one name is d.
func Deep(n int, t api.Tree) api.Tree {
	for range n {
		t = Dir("d", t)
	}
	return t
}

// Dice is numbers that look like nothing, and are the same in every run.
type Dice uint32

// Roll: a number from 0 to n - 1.
func (d *Dice) Roll(n int) int {
	*d = *d*1664525 + 1013904223
	return int(*d>>8) % n
}

// Tree: any tree, nothing in it deeper than depth.
func (d *Dice) Tree(depth int) api.Tree {
	if kind := d.Roll(6); kind == 0 {
		return Link(strconv.Itoa(d.Roll(1000000)))
	} else if kind < 3 || depth == 0 {
		return api.Tree{Kind: api.File, Exec: d.Roll(2) == 0, Data: d.Bytes(d.Roll(20))}
	}
	t := api.Tree{Kind: api.Dir}
	for range d.Roll(5) {
		t.Names = append(t.Names, strconv.Itoa(d.Roll(1000)))
	}
	slices.Sort(t.Names)
	t.Names = slices.Compact(t.Names)
	for range t.Names {
		t.Kids = append(t.Kids, d.Tree(depth-1))
	}
	return t
}

// Bytes: n bytes.
func (d *Dice) Bytes(n int) []byte {
	p := make([]byte, n)
	for i := range p {
		p[i] = byte(d.Roll(256))
	}
	return p
}
