package meta

import (
	"commons/api"
	"commons/dir"
	"commons/layout"
	"commons/names"
)

// Mkdir makes a directory.
func (m *Meta) Mkdir(path string, spare int) api.Errno {
	if isRoot(path) {
		return api.ErrExist
	}
	switch _, e := m.Walk(path); e {
	case api.OK:
		return api.ErrExist
	case api.ErrCorrupt:
		return e
	}
	parent, name, e := m.place(path)
	if e != api.OK {
		return e
	}
	_, e = m.create(parent, name, api.Inode{Kind: api.Dir, Links: 1}, spare)
	return e
}

// Rmdir removes an empty directory.
func (m *Meta) Rmdir(path string) api.Errno {
	if isRoot(path) {
		return api.ErrInval
	}
	_, x, e := m.node(path)
	switch {
	case e != api.OK:
		return e
	case x.Kind != api.Dir:
		return api.ErrNotDir
	case x.Size > 0:
		return api.ErrInside
	}
	return m.unname(path, m.free)
}

// Link gives a file a further name.
func (m *Meta) Link(path, path2 string, spare int) api.Errno {
	if !isPath(path) || !isPath(path2) {
		return api.ErrInval
	}
	i, x, e := m.node(path)
	switch {
	case e != api.OK:
		return e
	case x.Kind == api.Dir:
		return api.ErrIsDir
	case isRoot(path2):
		return api.ErrExist
	}
	parent, name, e := m.place(path2)
	if e != api.OK {
		return e
	}
	switch _, e := m.Walk(path2); {
	case e == api.OK:
		return api.ErrExist
	case e != api.ErrNone:
		return e
	case x.Links >= api.MaxLinks:
		return api.ErrLinks
	}
	x.Links++
	return first(m.SetInode(i, x), m.add(parent, name, i, spare))
}

// Unlink removes a file's name.
func (m *Meta) Unlink(path string) api.Errno {
	if isRoot(path) {
		return api.ErrIsDir
	}
	_, x, e := m.node(path)
	if e != api.OK {
		return e
	}
	if x.Kind == api.Dir {
		return api.ErrIsDir
	}
	return m.unname(path, m.lose)
}

// Rename gives a node another name. The old names go first, so that the new
// one finds the room that they leave.
func (m *Meta) Rename(path, path2 string, spare int) api.Errno {
	if !isPath(path) || !isPath(path2) || isRoot(path) || isRoot(path2) {
		return api.ErrInval
	}
	i, x, e := m.node(path)
	if e != api.OK {
		return e
	}
	if x.Kind == api.Dir && path2 != path && names.Inside(path2, path) {
		return api.ErrInval
	}
	parent, name, e := m.place(path2)
	if e != api.OK {
		return e
	}
	old, y, e := m.node(path2)
	switch {
	case e != api.OK && e != api.ErrNone:
		return e
	case old == i:
		return api.OK
	case e == api.OK:
		if e := m.replace(path2, x, y); e != api.OK {
			return e
		}
	}
	return first(m.unname(path, m.keep), m.add(parent, name, i, spare))
}

// List returns the names in a directory.
func (m *Meta) List(path string) ([]string, api.Errno) {
	i, e := m.Walk(path)
	if e != api.OK {
		return nil, e
	}
	t, e := m.Table(i)
	if e != api.OK {
		return nil, e
	}
	return t.Names(), api.OK
}

// Stat tells of a node.
func (m *Meta) Stat(path string) (api.Info, api.Errno) {
	_, x, e := m.node(path)
	if e != api.OK {
		return api.Info{}, e
	}
	return api.Info{Kind: x.Kind, Links: x.Links, Size: x.Size}, api.OK
}

// replace removes the name of the inode y, which the inode x is to have.
func (m *Meta) replace(path string, x, y api.Inode) api.Errno {
	switch {
	case x.Kind == api.Dir && y.Kind == api.File:
		return api.ErrNotDir
	case x.Kind == api.Dir && y.Size > 0:
		return api.ErrInside
	case x.Kind == api.File && y.Kind == api.Dir:
		return api.ErrIsDir
	case x.Kind == api.Dir:
		return m.unname(path, m.free)
	}
	return m.unname(path, m.lose)
}

// unname removes a name, and then does something with the inode that had it.
func (m *Meta) unname(path string, then func(i int) api.Errno) api.Errno {
	i, e := m.Walk(path)
	if e != api.OK {
		return e
	}
	parent, name, e := m.place(path)
	if e != api.OK {
		return e
	}
	return first(m.remove(parent, name), then(i))
}

// lose removes one of the names that a file counts.
func (m *Meta) lose(i int) api.Errno {
	x, e := m.Inode(i)
	if e != api.OK {
		return e
	}
	x.Links--
	return m.settle(i, x)
}

// keep leaves an inode as it is.
func (m *Meta) keep(int) api.Errno {
	return api.OK
}

// add adds a name to a directory's table.
func (m *Meta) add(parent int, name string, i, spare int) api.Errno {
	x, t, e := m.directory(parent)
	if e != api.OK {
		return e
	}
	at := t.Place(name)
	if at < 0 {
		return api.ErrSpace
	}
	if k := at / inBlock; x.Blocks[k] == 0 {
		if x.Blocks[k], e = m.Block(spare); e != api.OK {
			return e
		}
	}
	x.Size++
	return m.setEntry(parent, x, t, at, api.Entry{Name: name, Inode: i})
}

// remove removes a name from a directory's table.
func (m *Meta) remove(parent int, name string) api.Errno {
	x, t, e := m.directory(parent)
	if e != api.OK {
		return e
	}
	at := t.Find(name)
	if at < 0 {
		return api.ErrNone
	}
	x.Size--
	return m.setEntry(parent, x, t, at, api.Entry{})
}

// directory returns a directory's inode and its table.
func (m *Meta) directory(i int) (api.Inode, dir.Table, api.Errno) {
	t, e := m.Table(i)
	if e != api.OK {
		return api.Inode{}, dir.Table{}, e
	}
	x, e := m.Inode(i)
	return x, t, e
}

// setEntry stores a directory with one changed entry; a block that has no
// entry any more is freed.
func (m *Meta) setEntry(parent int, x api.Inode, t dir.Table, at int, entry api.Entry) api.Errno {
	t, k := t.Set(at, entry), at/inBlock
	if !t.Used(k) {
		e := m.SetMap(m.Map().Give(x.Blocks[k]))
		x.Blocks[k] = 0
		return first(e, m.SetInode(parent, x))
	}
	b, e := t.Block(k)
	return first(e, m.store(layout.Data, x.Blocks[k], b), m.SetInode(parent, x))
}

func isPath(path string) bool {
	_, e := names.Path(path)
	return e == api.OK
}

func isRoot(path string) bool {
	l, e := names.Path(path)
	return e == api.OK && len(l) == 0
}
