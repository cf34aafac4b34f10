package audit_test

import (
	"slices"
	"strconv"
	"strings"
	"testing"

	"commons/api"
	"commons/audit"
	"commons/layout"
	"commons/pmem"
	"commons/posix"
	"commons/volume"
)

// pair is a volume and a file system that are changed alike.
type pair struct {
	v *volume.Volume
	f *posix.Fs
	m *pmem.Memory
}

func empty(t *testing.T) pair {
	t.Helper()
	m := pmem.New(layout.Size())
	if e := volume.Format(m); e != api.OK {
		t.Fatal(e)
	}
	v, e := volume.Mount(m)
	if e != api.OK {
		t.Fatal(e)
	}
	return pair{v, posix.New(), m}
}

func (p pair) done(t *testing.T, e api.Errno) {
	t.Helper()
	if e != api.OK {
		t.Fatal("volume", e)
	}
	if e := p.v.Commit(); e != api.OK {
		t.Fatal("commit", e)
	}
}

func (p pair) calls(t *testing.T, c api.Call) {
	t.Helper()
	if r := p.f.Do(1, c); r.Errno != api.OK {
		t.Fatal(c, r)
	}
}

func (p pair) mkdir(t *testing.T, path string) {
	t.Helper()
	p.done(t, p.v.Meta().Mkdir(path, 0))
	p.calls(t, api.Call{Kind: api.Mkdir, Path: path})
}

// file makes a file in the volume, without descriptors, and returns its inode.
func (p pair) volumeFile(t *testing.T, path, s string) int {
	t.Helper()
	i, e := p.v.Meta().Open(1, path, 1, false, 0)
	p.done(t, e)
	p.done(t, p.v.Files().Set(i, s, 0))
	p.done(t, p.v.Meta().Close(1, i))
	return i
}

func (p pair) file(t *testing.T, path, s string) {
	t.Helper()
	p.volumeFile(t, path, s)
	p.calls(t, open(path))
	for off := 0; off < len(s); off += 64 {
		p.calls(t, write(off, s[off:min(off+64, len(s))]))
	}
	p.calls(t, api.Call{Kind: api.Close})
}

func (p pair) link(t *testing.T, path, path2 string) {
	t.Helper()
	p.done(t, p.v.Meta().Link(path, path2, 0))
	p.calls(t, api.Call{Kind: api.Link, Path: path, Path2: path2})
}

func (p pair) rename(t *testing.T, path, path2 string) {
	t.Helper()
	p.done(t, p.v.Meta().Rename(path, path2, 0))
	p.calls(t, api.Call{Kind: api.Rename, Path: path, Path2: path2})
}

func (p pair) match(t *testing.T, want bool) {
	t.Helper()
	before := p.f.Copy()
	if got := audit.Matches(p.v, p.f); got != want {
		t.Error(got)
	}
	if !p.f.Same(before) || len(p.v.Patches()) != 0 {
		t.Error("something was changed")
	}
}

// some is a pair with a bit of everything.
func some(t *testing.T) pair {
	t.Helper()
	p := empty(t)
	p.mkdir(t, "/d")
	p.mkdir(t, "/d/e")
	p.mkdir(t, "/0")
	p.file(t, "/a", "same")
	p.file(t, "/d/b", "same")
	p.file(t, "/big", strings.Repeat("0123456789abcdef", 16))
	p.file(t, "/none", "")
	p.link(t, "/a", "/d/e/a")
	p.link(t, "/big", "/d/big")
	return p
}

// P25.2
func TestMatches(t *testing.T) {
	empty(t).match(t, true)
	p := some(t)
	p.match(t, true)
	if audit.Matches(p.v, posix.New()) || audit.Matches(empty(t).v, p.f) {
		t.Error("an empty one")
	}
}

// P25.2: each change is seen, in the volume and in the file system.
func TestChanges(t *testing.T) {
	path := func(kind int, path string) api.Call { return api.Call{Kind: kind, Path: path} }
	two := func(kind int, path, path2 string) api.Call {
		return api.Call{Kind: kind, Path: path, Path2: path2}
	}
	for i, l := range [][]api.Call{
		{path(api.Mkdir, "/x")}, {path(api.Mkdir, "/d/e/x")}, {path(api.Rmdir, "/0")}, {path(api.Unlink, "/none")}, {path(api.Unlink, "/d/b")}, {two(api.Link, "/a", "/x")}, {two(api.Rename, "/a", "/x")}, {two(api.Rename, "/0", "/d/0")},
		{open("/x")}, {open("/a"), write(0, "S")}, {open("/big"), write(255, "!")}, {open("/a"), {Kind: api.Trunc, N: 5}}, {open("/a"), {Kind: api.Trunc, N: 3}}, {path(api.Unlink, "/d/e/a"), two(api.Link, "/d/b", "/d/e/a")},
		{path(api.Rmdir, "/0"), open("/0")}, {path(api.Unlink, "/none"), path(api.Mkdir, "/none")},
	} {
		p := some(t)
		for _, c := range l {
			p.calls(t, c)
		}
		if audit.Matches(p.v, p.f) {
			t.Error(i)
		}
	}
	p := some(t)
	p.done(t, p.v.Meta().Link("/a", "/x", 0))
	p.match(t, false)
	p = some(t)
	p.done(t, p.v.Files().Set(5, "samE", 0))
	p.match(t, false)
	p = some(t)
	p.done(t, p.v.Meta().Mkdir("/d/x", 0))
	p.match(t, false)
}

// P25.2: descriptors, and files without names, make no difference.
func TestDescriptors(t *testing.T) {
	p := some(t)
	p.calls(t, open("/a"))
	p.calls(t, open("/a"))
	p.match(t, true)
	_, e := p.v.Meta().Open(8, "/d/b", 0, false, 0)
	p.done(t, e)
	p.match(t, true)
	p.calls(t, open("/gone"))
	p.calls(t, api.Call{Kind: api.Unlink, Path: "/gone"})
	p.match(t, true)
	i, e := p.v.Meta().Open(8, "/other", 1, false, 0)
	p.done(t, e)
	p.done(t, p.v.Files().Set(i, "open", 0))
	p.done(t, p.v.Meta().Unlink("/other"))
	p.match(t, true)
}

// P25.2: what lies deeper than any path.
func TestDeep(t *testing.T) {
	p := empty(t)
	at := ""
	for k := range 5 {
		at += "/" + strconv.Itoa(k)
		p.mkdir(t, at)
	}
	p.file(t, at+"/f", "deep")
	p.link(t, at+"/f", "/f")
	p.mkdir(t, "/x")
	p.mkdir(t, "/x/y")
	p.mkdir(t, "/x/y/z")
	p.rename(t, "/0", "/x/y/z/0")
	p.match(t, true)
	q := pair{p.v, p.f.Copy(), p.m}
	q.calls(t, api.Call{Kind: api.Rename, Path: "/x/y/z/0", Path2: "/0"})
	q.calls(t, open("/f"))
	q.calls(t, write(0, "D"))
	q.calls(t, api.Call{Kind: api.Rename, Path: "/0", Path2: "/x/y/z/0"})
	q.match(t, false)
	q = pair{p.v, p.f.Copy(), p.m}
	q.calls(t, api.Call{Kind: api.Rename, Path: "/x/y/z/0", Path2: "/0"})
	q.calls(t, api.Call{Kind: api.Rename, Path: at + "/f", Path2: at + "/g"})
	q.calls(t, api.Call{Kind: api.Rename, Path: "/0", Path2: "/x/y/z/0"})
	q.match(t, false)
}

// P25.2: many names of one file.
func TestManyNames(t *testing.T) {
	p := empty(t)
	p.mkdir(t, "/d")
	p.file(t, "/n0", "x")
	for k := 1; k < api.MaxLinks; k++ {
		p.link(t, "/n0", []string{"", "/d"}[k%2]+"/n"+strconv.Itoa(k))
	}
	p.match(t, true)
	p.calls(t, api.Call{Kind: api.Unlink, Path: "/n4"})
	p.match(t, false)
}

// P25.2: a full root.
func TestFullRoot(t *testing.T) {
	p := empty(t)
	for k := range 16 {
		p.mkdir(t, "/"+strconv.Itoa(k))
	}
	p.match(t, true)
	p.rename(t, "/3", "/4/3")
	p.match(t, true)
}

// P25.2: what the inodes say counts, and what can't be decoded matches nothing.
func TestUnsound(t *testing.T) {
	p := some(t)
	x, _ := p.v.Meta().Inode(5)
	for i, change := range []func(x *api.Inode){func(x *api.Inode) { x.Links++ }, func(x *api.Inode) { x.Links-- }, func(x *api.Inode) { x.Size++ }, func(x *api.Inode) { *x = api.Inode{} }} {
		y := x
		change(&y)
		p.done(t, p.v.Meta().SetInode(5, y))
		if audit.Matches(p.v, p.f) {
			t.Error(i)
		}
		p.done(t, p.v.Meta().SetInode(5, x))
		p.match(t, true)
	}
	root, _ := p.v.Meta().Inode(1)
	table, _ := p.v.Meta().Table(1)
	at := table.Find("0")
	data, _ := layout.Find(layout.Data, root.Blocks[at/4])
	for i, entry := range []api.Entry{{Name: "0", Inode: 1}, {Name: "0", Inode: 2}, {Name: "0", Inode: 30}, {Name: "a", Inode: 4}} {
		b, _ := table.Set(at, entry).Block(at / 4)
		p.done(t, p.v.Store(data.At, b))
		if audit.Matches(p.v, p.f) {
			t.Error("entry", i)
		}
		b, _ = table.Block(at / 4)
		p.done(t, p.v.Store(data.At, b))
		p.match(t, true)
	}
	d, _ := p.v.Meta().Inode(2)
	larger := d
	larger.Size++
	p.done(t, p.v.Meta().SetInode(2, larger))
	p.match(t, false)
	p.done(t, p.v.Meta().SetInode(2, d))
	block := slices.Max(d.Blocks[:])
	for _, part := range [][2]int{{layout.Nodes, 5}, {layout.Nodes, 1}, {layout.Nodes, 3}, {layout.Data, block}} {
		p := some(t)
		at, _ := layout.Find(part[0], part[1])
		p.m.Store(at.At, slices.Repeat([]byte{0xEE}, at.Size))
		if audit.Matches(p.v, p.f) {
			t.Error(part)
		}
	}
}
