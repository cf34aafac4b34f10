package meta

import (
	"commons/api"
	"commons/bits"
	"commons/inode"
)

// Open opens a file for a client, and returns the number of its inode.
func (m *Meta) Open(client int, path string, flags int, full bool, spare int) (int, api.Errno) {
	if !isClient(client) {
		return 0, api.ErrArg
	}
	if flags != 0 && flags != api.Create && flags != api.Create|api.Only {
		return 0, api.ErrInval
	}
	i, x, e := m.node(path)
	if e == api.OK {
		return m.openOld(client, i, x, flags, full)
	}
	parent, name, noPlace := m.place(path)
	if e != api.ErrNone || noPlace != api.OK || flags == 0 {
		return 0, e
	}
	if full {
		return 0, api.ErrManyFd
	}
	x = api.Inode{Kind: api.File, Links: 1}
	x.Opens[client-1] = 1
	return m.create(parent, name, x, spare)
}

// Close removes one of a client's descriptors of an inode.
func (m *Meta) Close(client, i int) api.Errno {
	x, e := m.Inode(i)
	if e != api.OK || !isClient(client) || x.Opens[client-1] == 0 {
		return api.ErrBadFd
	}
	x.Opens[client-1]--
	return m.settle(i, x)
}

// Drop removes all descriptors of a client. The map is stored once, since a
// transaction has no room for as many stores as there may be blocks.
func (m *Meta) Drop(client int) api.Errno {
	if !isClient(client) {
		return api.ErrArg
	}
	used, e := m.Map(), api.OK
	for k := range api.Inodes {
		x, bad := m.Inode(k + 1)
		if bad != api.OK || x.Opens[client-1] == 0 {
			continue
		}
		x.Opens[client-1] = 0
		if isGone(x) {
			used, x = without(used, x), api.Inode{}
		}
		e = first(e, m.SetInode(k+1, x))
	}
	if used == m.Map() {
		return e
	}
	return first(e, m.SetMap(used))
}

func (m *Meta) openOld(client, i int, x api.Inode, flags int, full bool) (int, api.Errno) {
	switch {
	case flags&api.Only != 0:
		return 0, api.ErrExist
	case x.Kind == api.Dir:
		return 0, api.ErrIsDir
	case full || x.Opens[client-1] >= api.MaxFds:
		return 0, api.ErrManyFd
	}
	x.Opens[client-1]++
	if e := m.SetInode(i, x); e != api.OK {
		return 0, e
	}
	return i, api.OK
}

// create allocates an inode and gives it a name.
func (m *Meta) create(parent int, name string, x api.Inode, spare int) (int, api.Errno) {
	i, e := m.none()
	if e != api.OK {
		return 0, e
	}
	if e := first(m.SetInode(i, x), m.add(parent, name, i, spare)); e != api.OK {
		return 0, e
	}
	return i, api.OK
}

// none returns the first inode that is none.
func (m *Meta) none() (int, api.Errno) {
	for k := range api.Inodes {
		if x, e := m.Inode(k + 1); e == api.OK && x.Kind == 0 {
			return k + 1, api.OK
		}
	}
	return 0, api.ErrSpace
}

// settle stores an inode, or frees it if nothing holds it any more.
func (m *Meta) settle(i int, x api.Inode) api.Errno {
	if isGone(x) {
		return m.free(i)
	}
	return m.SetInode(i, x)
}

// free makes an inode none, and frees its blocks.
func (m *Meta) free(i int) api.Errno {
	x, e := m.Inode(i)
	if e != api.OK {
		return e
	}
	return first(m.SetInode(i, api.Inode{}), m.SetMap(without(m.Map(), x)))
}

func isClient(client int) bool {
	return client >= 1 && client <= api.MaxClients
}

// isGone reports whether an inode is a file without names and descriptors.
func isGone(x api.Inode) bool {
	return x.Kind == api.File && x.Links == 0 && inode.Open(x) == 0
}

// without returns the map in which the blocks of an inode are not used.
func without(used bits.Map, x api.Inode) bits.Map {
	for _, n := range x.Blocks {
		used = used.Give(n)
	}
	return used
}
