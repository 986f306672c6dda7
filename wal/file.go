package wal

import (
	"provost/api"
	"provost/disk"
)

// file is a file of a disk, whether it is there or not. All that it knows is what tells its name, so that segments
// and the other files are handled alike.
type file struct {
	disk *disk.Disk
	name func() string
}

// file returns the file whose name this method tells.
func (w *Wal) file(name func() string) file { return file{w.disk, name} }

// read returns the bytes of f, none if it isn't there.
func (f file) read() []byte {
	b, _ := f.disk.Read(f.name())
	return b
}

// there tells whether f is there: it may be without having any bytes.
func (f file) there() bool {
	_, errno := f.disk.Read(f.name())
	return errno == api.OK
}

// append appends b, and makes f if it isn't there.
func (f file) append(b []byte) api.Errno { return f.disk.Append(f.name(), b) }

// sync makes all bytes sure.
func (f file) sync() api.Errno { return f.disk.Sync(f.name()) }

// settle makes all bytes sure if they aren't yet.
func (f file) settle() api.Errno {
	if f.disk.Sure(f.name()) == len(f.read()) {
		return api.OK
	}
	return f.sync()
}

// trim leaves the first n bytes if there are more.
func (f file) trim(n int) api.Errno {
	if len(f.read()) <= n {
		return api.OK
	}
	return f.disk.Cut(f.name(), n)
}

// drop removes f if it is there.
func (f file) drop() api.Errno {
	if !f.there() {
		return api.OK
	}
	return f.disk.Drop(f.name())
}

// move gives f the name of another file, whose place it takes.
func (f file) move(to file) api.Errno { return f.disk.Move(f.name(), to.name()) }
