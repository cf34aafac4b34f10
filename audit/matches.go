package audit

import (
	"slices"
	"strconv"

	"commons/api"
	"commons/dir"
	"commons/posix"
	"commons/volume"
)

const (
	builder  = 1 // the client that builds
	rootPath = "/"
)

// Matches reports whether the files and directories of a volume are those of
// a file system.
func Matches(v *volume.Volume, f *posix.Fs) bool {
	root, e := v.Meta().Walk(rootPath)
	if e != api.OK {
		return false
	}
	t := &tree{v: v, dirs: map[int]dir.Table{}, links: map[int]int{}}
	if !t.visit(root) || !t.counted() {
		return false
	}
	named := f.Copy()
	for client := range api.MaxClients {
		named.Drop(client + 1)
	}
	g, ok := t.rebuilt(root)
	return ok && g.Same(named)
}

// tree is what a volume's root leads to.
type tree struct {
	v     *volume.Volume
	dirs  map[int]dir.Table
	links map[int]int // the names of each file
}

// visit looks at a directory and what it contains. A directory with a name
// twice, or with two names, is none of any file system.
func (t *tree) visit(i int) bool {
	table, e := t.v.Meta().Table(i)
	if _, again := t.dirs[i]; again || e != api.OK {
		return false
	}
	if l := table.Names(); len(slices.Compact(l)) != len(table.Names()) {
		return false
	}
	t.dirs[i] = table
	for _, entry := range table {
		if entry.Inode == 0 {
			continue
		}
		x, e := t.v.Meta().Inode(entry.Inode)
		switch {
		case e != api.OK || x.Kind == 0:
			return false
		case x.Kind == api.File:
			t.links[entry.Inode]++
		case !t.visit(entry.Inode):
			return false
		}
	}
	return true
}

// counted reports whether the inodes say how many names there are.
func (t *tree) counted() bool {
	for i, table := range t.dirs {
		if x, _ := t.v.Meta().Inode(i); x.Size != len(table.Names()) {
			return false
		}
	}
	for i, n := range t.links {
		if x, _ := t.v.Meta().Inode(i); x.Links != n {
			return false
		}
	}
	return true
}

// build is a file system in the making. Each file and directory is made in a
// shed first, and then brought to its place together with what it contains,
// since no path leads to what lies too deep.
type build struct {
	*tree
	f    *posix.Fs
	shed string
	left map[int]int // the names that files still lack
	bad  bool
}

// rebuilt returns the file system that the tree is.
func (t *tree) rebuilt(root int) (*posix.Fs, bool) {
	b := &build{tree: t, f: posix.New(), left: map[int]int{}}
	b.shed = rootPath + unused(t.dirs[root].Names())
	b.do(api.Call{Kind: api.Mkdir, Path: b.shed})
	for i, n := range t.links {
		b.left[i] = n
		b.file(i)
	}
	b.fill("", root)
	b.do(api.Call{Kind: api.Rmdir, Path: b.shed})
	return b.f, !b.bad
}

// fill puts what a directory contains under a path.
func (b *build) fill(path string, i int) {
	for _, entry := range b.dirs[i] {
		if entry.Inode == 0 {
			continue
		}
		at, how := b.at(entry.Inode), api.Rename
		if _, isDir := b.dirs[entry.Inode]; isDir {
			b.do(api.Call{Kind: api.Mkdir, Path: at})
			b.fill(at, entry.Inode)
		} else if b.left[entry.Inode]--; b.left[entry.Inode] > 0 {
			how = api.Link
		}
		b.do(api.Call{Kind: how, Path: at, Path2: path + rootPath + entry.Name})
	}
}

// file makes a file with its bytes.
func (b *build) file(i int) {
	s, e := b.v.Files().Bytes(i)
	b.bad = b.bad || e != api.OK
	fd := b.do(api.Call{Kind: api.Open, Path: b.at(i), Flags: api.Create}).Fd
	for off := 0; off < len(s); off += api.MaxData {
		b.do(api.Call{Kind: api.Write, Fd: fd, Off: off, Data: s[off:min(off+api.MaxData, len(s))]})
	}
	b.do(api.Call{Kind: api.Close, Fd: fd})
}

// at returns where an inode is as long as it is not at its place.
func (b *build) at(i int) string {
	return b.shed + rootPath + strconv.Itoa(i)
}

func (b *build) do(c api.Call) api.Reply {
	r := b.f.Do(builder, c)
	b.bad = b.bad || r.Errno != api.OK
	return r
}

// unused returns a name that is not in a list.
func unused(l []string) string {
	n := 0
	for slices.Contains(l, strconv.Itoa(n)) {
		n++
	}
	return strconv.Itoa(n)
}
