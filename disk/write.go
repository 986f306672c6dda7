package disk

import (
	"provost/api"
	"provost/name"
)

// check returns the errors of a call for a file that go ahead of all others.
func (d *Disk) check(file string) api.Errno {
	if d.Down() {
		return api.ErrDown
	}
	if !name.May(file) {
		return api.ErrName
	}
	return api.OK
}

// find returns what is in a file that a call is to change.
func (d *Disk) find(file string) (content, api.Errno) {
	if errno := d.check(file); errno != api.OK {
		return content{}, errno
	}
	c, found := d.files[file]
	if !found {
		return content{}, api.ErrNone
	}
	return c, api.OK
}

// write counts a write for which no other error applies, or lets it fail: then the disk goes down.
func (d *Disk) write() api.Errno {
	if !d.armed {
		return api.OK
	}
	if d.left == 0 {
		d.down = true
		return api.ErrDown
	}
	d.left--
	return api.OK
}

// put stores a file. The map is made with the first one, so that the zero value of a Disk does without.
func (d *Disk) put(file string, c content) {
	if d.files == nil {
		d.files = map[string]content{}
	}
	d.files[file] = c
}

// all returns the files, of a nil Disk too.
func (d *Disk) all() map[string]content {
	if d == nil {
		return nil
	}
	return d.files
}
