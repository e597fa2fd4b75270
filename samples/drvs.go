package samples

import (
	"staddle/api"
	"staddle/base"
	"staddle/drv"
	"staddle/nar"
)

// Digits: the digest of a tree's archive, as a fixed derivation tells it.
func Digits(t api.Tree) string {
	sum, _, _ := nar.Sum(t)
	return base.Hex(sum[:])
}

// DrvFile: the path of a right derivation, and the file that stands there.
func DrvFile(d api.Drv) (string, api.Tree) {
	path, _ := drv.Path(d)
	text, _ := drv.Text(d)
	return path, File(text)
}
