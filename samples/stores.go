package samples

import (
	"staddle/api"
	"staddle/fsys"
	"staddle/sector"
	"staddle/valid"
)

// Store: a new device on which no path is valid, and its paths.
func Store(sectors int) (*sector.Device, *valid.DB, api.Errno) {
	d, e := sector.New(sectors)
	if e != api.OK {
		return nil, nil, e
	}
	if e := fsys.Format(d); e != api.OK {
		return nil, nil, e
	}
	b, e := Stored(d)
	return d, b, e
}

// Stored: the paths of a device.
func Stored(d *sector.Device) (*valid.DB, api.Errno) {
	f, e := fsys.Open(d)
	if e != api.OK {
		return nil, e
	}
	return valid.Open(f)
}
