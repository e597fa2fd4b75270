package samples

import (
	"strings"

	"staddle/api"
	"staddle/fsys"
	"staddle/naming"
	"staddle/sector"
	"staddle/valid"
)

// Store: a new device on which no path is valid, and its paths.
func Store(sectors int) (*sector.Device, *valid.DB, api.Errno) {
	d, e := sector.New(sectors)
	if e != api.OK {
		return nil, nil, e
	}
	if e := fsys.Format(d); e != api.OK {
		return nil, nil, e
	}
	b, e := Stored(d)
	return d, b, e
}

// Stored: the paths of a device.
func Stored(d *sector.Device) (*valid.DB, api.Errno) {
	f, e := fsys.Open(d)
	if e != api.OK {
		return nil, e
	}
	return valid.Open(f)
}

// Fallen: the paths of a device behind a fall of the power, in which all is lost that is on its way.
func Fallen(d *sector.Device) (*valid.DB, api.Errno) {
	if e := d.Restart(nil, -1, 0); e != api.OK {
		return nil, e
	}
	return Stored(d)
}

// Off lets the power go off; ErrCrash: it is.
func Off(d *sector.Device) api.Errno {
	if e := d.Arm(1); e != api.OK {
		return e
	}
	return d.Sync()
}

// Keep makes a path valid, whoever it is told to be made by.
func Keep(b *valid.DB, path string, t api.Tree, from string, refs ...string) api.Errno {
	x, e := valid.Make(path, t, refs, from)
	if e != api.OK {
		return e
	}
	return b.Register([]api.Info{x}, []api.Tree{t})
}

// Path: a path whose digest's signs all are one.
func Path(sign, name string) string {
	return strings.Repeat(sign, naming.Signs) + "-" + name
}
