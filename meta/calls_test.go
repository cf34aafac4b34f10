package meta_test

import (
	"math"
	"testing"

	"commons/api"
	"commons/posix"
)

// P14.3: Open.
func TestOpen(t *testing.T) {
	v := fresh(t)
	v.mkdir(t, "/d")
	if i := v.open(t, 1, "/d/a", 1); i != 3 {
		t.Error(i)
	}
	if i := v.open(t, 8, "/d/a", 0); i != 3 {
		t.Error(i)
	}
	if i := v.open(t, 1, "/d/a", 1); i != 3 {
		t.Error(i)
	}
	if i := v.open(t, 1, "/b", 3); i != 4 {
		t.Error(i)
	}
	if x, _ := v.Inode(3); x != (api.Inode{Kind: api.File, Links: 1, Opens: [8]int{0: 2, 7: 1}}) {
		t.Error(x)
	}
	v.stat(t, "/d", api.Dir, 1, 1)
	for i, c := range []struct {
		client int
		path   string
		flags  int
		full   bool
		want   api.Errno
	}{
		{0, "/b", 0, false, api.ErrArg}, {9, "/b", 9, true, api.ErrArg}, {-1, "bad", 0, false, api.ErrArg}, {math.MaxInt, "/b", 0, false, api.ErrArg}, {math.MinInt, "/b", 0, false, api.ErrArg},
		{1, "/b", 2, false, api.ErrInval}, {1, "/b", 4, false, api.ErrInval}, {1, "/b", -1, true, api.ErrInval}, {1, "bad", 0, false, api.ErrInval}, {1, "/b/", 1, true, api.ErrInval},
		{1, "/b", 3, true, api.ErrExist}, {1, "/d", 3, true, api.ErrExist}, {1, "/d", 0, true, api.ErrIsDir}, {1, "/", 1, false, api.ErrIsDir}, {1, "/b", 0, true, api.ErrManyFd}, {1, "/b", 1, true, api.ErrManyFd},
		{1, "/x", 0, false, api.ErrNone}, {1, "/x", 0, true, api.ErrNone}, {1, "/x", 1, true, api.ErrManyFd}, {1, "/x", 3, true, api.ErrManyFd},
		{1, "/x/y", 1, true, api.ErrNone}, {1, "/b/y", 1, true, api.ErrNotDir}, {1, "/b/y/z", 3, false, api.ErrNotDir},
	} {
		n, e := v.Open(c.client, c.path, c.flags, c.full, 0)
		v.want(t, e, c.want)
		if n != 0 {
			t.Error(i, n)
		}
	}
}

// P14.3: eight descriptors of one inode, whatever full says.
func TestOpenEightTimes(t *testing.T) {
	v := fresh(t)
	for range 8 {
		v.open(t, 2, "/a", 1)
	}
	_, e := v.Open(2, "/a", 0, false, 0)
	v.want(t, e, api.ErrManyFd)
	_, e = v.Open(2, "/a", 3, false, 0)
	v.want(t, e, api.ErrExist)
	v.open(t, 2, "/b", 1)
	v.open(t, 3, "/a", 1)
}

// P14.3: Mkdir and Rmdir.
func TestMkdirAndRmdir(t *testing.T) {
	v := fresh(t)
	v.mkdir(t, "/d", "/d/e")
	v.open(t, 1, "/f", 1)
	for path, want := range map[string]api.Errno{"/": api.ErrExist, "/d": api.ErrExist, "/f": api.ErrExist, "bad": api.ErrInval, "/x/y": api.ErrNone, "/f/x": api.ErrNotDir, "/d/": api.ErrInval} {
		v.want(t, v.Mkdir(path, 0), want)
	}
	for path, want := range map[string]api.Errno{"/": api.ErrInval, "bad": api.ErrInval, "/x": api.ErrNone, "/f": api.ErrNotDir, "/f/x": api.ErrNotDir, "/d": api.ErrInside} {
		v.want(t, v.Rmdir(path), want)
	}
	v.list(t, "/", "d", "f")
	v.want(t, v.Rmdir("/d/e"), api.OK)
	v.want(t, v.Rmdir("/d"), api.OK)
	v.list(t, "/", "f")
	if x, e := v.Inode(2); x != (api.Inode{}) || e != api.OK {
		t.Error(x, e)
	}
}

// P14.3: Link and Unlink.
func TestLinkAndUnlink(t *testing.T) {
	v := fresh(t)
	v.mkdir(t, "/d")
	v.open(t, 1, "/a", 1)
	v.want(t, v.Link("/a", "/d/b", 0), api.OK)
	v.stat(t, "/d/b", api.File, 2, 0)
	for _, c := range []struct {
		path, path2 string
		want        api.Errno
	}{
		{"bad", "/x", api.ErrInval}, {"/", "bad", api.ErrInval}, {"/x", "/y", api.ErrNone}, {"/a/x", "/y", api.ErrNotDir}, {"/d", "/a", api.ErrIsDir}, {"/", "/", api.ErrIsDir},
		{"/a", "/", api.ErrExist}, {"/a", "/x/y", api.ErrNone}, {"/a", "/a/y", api.ErrNotDir}, {"/a", "/a", api.ErrExist}, {"/a", "/d", api.ErrExist},
	} {
		v.want(t, v.Link(c.path, c.path2, 0), c.want)
	}
	for path, want := range map[string]api.Errno{"/": api.ErrIsDir, "/d": api.ErrIsDir, "/x": api.ErrNone, "bad": api.ErrInval, "/a/b": api.ErrNotDir} {
		v.want(t, v.Unlink(path), want)
	}
	v.want(t, v.Unlink("/a"), api.OK)
	v.stat(t, "/d/b", api.File, 1, 0)
	v.want(t, v.Unlink("/d/b"), api.OK)
	v.list(t, "/d")
	if x, _ := v.Inode(3); x != (api.Inode{Kind: api.File, Opens: [8]int{1}}) {
		t.Error(x)
	}
	v.want(t, v.Close(1, 3), api.OK)
	if x, _ := v.Inode(3); x != (api.Inode{}) {
		t.Error(x)
	}
}

// P14.3
func TestMaxLinks(t *testing.T) {
	v := fresh(t)
	v.mkdir(t, "/d")
	v.open(t, 1, "/a", 1)
	for i := range 19 {
		if i < 14 {
			v.want(t, v.Link("/a", "/l"+number(i), 0), api.OK)
		} else {
			v.want(t, v.Link("/a", "/d/l"+number(i), 0), api.OK)
		}
	}
	v.stat(t, "/a", api.File, 20, 0)
	v.want(t, v.Link("/a", "/d/more", 0), api.ErrLinks)
	v.want(t, v.Link("/a", "/more", 0), api.ErrLinks)
	v.want(t, v.Link("/a", "/l3", 0), api.ErrExist)
	v.want(t, v.Unlink("/l3"), api.OK)
	v.want(t, v.Link("/a", "/d/more", 0), api.OK)
}

// P14.3: Rename.
func TestRename(t *testing.T) {
	v := fresh(t)
	v.mkdir(t, "/d", "/d/e", "/g")
	v.open(t, 1, "/a", 1)
	v.open(t, 1, "/b", 1)
	for _, c := range []struct {
		path, path2 string
		want        api.Errno
	}{
		{"/", "/x", api.ErrInval}, {"/a", "/", api.ErrInval}, {"/a", "x", api.ErrInval}, {"x", "/a", api.ErrInval}, {"/x", "/y", api.ErrNone}, {"/a/x", "/y", api.ErrNotDir},
		{"/d", "/d/e", api.ErrInval}, {"/d", "/d/x/y", api.ErrInval}, {"/a", "/a/x", api.ErrNotDir}, {"/a", "/x/y", api.ErrNone}, {"/d", "/a", api.ErrNotDir},
		{"/g", "/d", api.ErrInside}, {"/d/e", "/d", api.ErrInside}, {"/a", "/d", api.ErrIsDir}, {"/a", "/g", api.ErrIsDir},
		{"/d", "/d", api.OK}, {"/a", "/a", api.OK}, {"/d", "/g", api.OK}, {"/a", "/g/b", api.OK},
	} {
		v.want(t, v.Rename(c.path, c.path2, 0), c.want)
	}
	v.list(t, "/", "b", "g")
	v.list(t, "/g", "b", "e")
	if x, _ := v.Inode(4); x != (api.Inode{}) {
		t.Error("the directory that was replaced", x)
	}
	v.want(t, v.Rename("/b", "/g/b", 0), api.OK)
	if x, _ := v.Inode(5); x != (api.Inode{Kind: api.File, Opens: [8]int{1}}) {
		t.Error("the file that was replaced, and is open", x)
	}
	v.want(t, v.Link("/g/b", "/c", 0), api.OK)
	v.want(t, v.Rename("/c", "/g/b", 0), api.OK)
	v.stat(t, "/c", api.File, 2, 0)
	v.want(t, v.Close(1, 6), api.OK)
	v.open(t, 1, "/o", 1)
	v.want(t, v.Rename("/o", "/c", 0), api.OK)
	v.stat(t, "/g/b", api.File, 1, 0)
	v.want(t, v.Rename("/c", "/g/b", 0), api.OK)
	if x, _ := v.Inode(6); x != (api.Inode{}) {
		t.Error("the file that was replaced", x)
	}
}

// P14.3: List and Stat.
func TestListAndStat(t *testing.T) {
	v := fresh(t)
	v.mkdir(t, "/b", "/ab")
	v.open(t, 1, "/a", 1)
	v.list(t, "/", "a", "ab", "b")
	v.list(t, "/b")
	v.stat(t, "/", api.Dir, 1, 3)
	v.stat(t, "/a", api.File, 1, 0)
	for path, want := range map[string]api.Errno{"/a": api.ErrNotDir, "/a/x": api.ErrNotDir, "/x": api.ErrNone, "x": api.ErrInval} {
		if l, e := v.List(path); e != want || len(l) > 0 {
			t.Error(path, e)
		}
	}
	for path, want := range map[string]api.Errno{"/a/x": api.ErrNotDir, "/x": api.ErrNone, "x": api.ErrInval} {
		if s, e := v.Stat(path); e != want || s != (api.Info{}) {
			t.Error(path, e)
		}
	}
}

// P14.3: no place in a table.
func TestFullDirectory(t *testing.T) {
	v := fresh(t)
	for i := range 16 {
		v.mkdir(t, "/d"+number(i))
	}
	v.open(t, 1, "/d0/f", 1)
	v.want(t, v.Mkdir("/more", 0), api.ErrSpace)
	v.want(t, v.Link("/d0/f", "/more", 0), api.ErrSpace)
	v.want(t, v.Rename("/d0/f", "/more", 0), api.ErrSpace)
	_, e := v.Open(1, "/more", 1, false, 0)
	v.want(t, e, api.ErrSpace)
	_, e = v.Open(1, "/more", 1, true, 0)
	v.want(t, e, api.ErrManyFd)
	v.want(t, v.Mkdir("/d3", 0), api.ErrExist)
	v.want(t, v.Rename("/d3", "/d4", 0), api.OK)
	v.want(t, v.Mkdir("/more", 0), api.OK)
	v.stat(t, "/", api.Dir, 1, 16)
}

// P14.3: no inode.
func TestNoInode(t *testing.T) {
	v := fresh(t)
	v.mkdir(t, "/d", "/e", "/g")
	for i := range 28 {
		v.open(t, 1, []string{"/d/f", "/e/f"}[i/16]+number(i), 1)
	}
	v.want(t, v.Mkdir("/more", 0), api.ErrSpace)
	_, e := v.Open(1, "/more", 1, false, 0)
	v.want(t, e, api.ErrSpace)
	v.want(t, v.Link("/d/f1", "/more", 0), api.OK)
	v.want(t, v.Rmdir("/g"), api.OK)
	if i := v.open(t, 1, "/g", 3); i != 4 {
		t.Error("not the first inode that is none", i)
	}
}

// P14.3: no block, or too few beside the spare ones.
func TestNoBlock(t *testing.T) {
	v := fresh(t)
	v.mkdir(t, "/d", "/e")
	v.open(t, 1, "/d/f", 1)
	v.take(t, 2)
	v.want(t, v.Mkdir("/d/f/x", 2), api.ErrNotDir)
	v.want(t, v.Mkdir("/e/x", 2), api.ErrSpace)
	v.want(t, v.Link("/d/f", "/e/x", 2), api.ErrSpace)
	v.want(t, v.Link("/d/f", "/e/x", math.MaxInt), api.ErrSpace)
	_, e := v.Open(1, "/e/x", 1, false, 2)
	v.want(t, e, api.ErrSpace)
	v.want(t, v.Rename("/d/f", "/e/x", 3), api.ErrSpace)
	v.want(t, v.Mkdir("/e/x", 1), api.OK)
	v.stat(t, "/e", api.Dir, 1, 1)
	v.want(t, v.Rmdir("/e/x"), api.OK)
	v.take(t, 0)
	v.want(t, v.Mkdir("/e/x", -7), api.ErrSpace)
	v.want(t, v.Unlink("/d/f"), api.OK)
	v.want(t, v.Mkdir("/e/x", -7), api.OK)
}

// P14.4
func TestClose(t *testing.T) {
	v := fresh(t)
	v.open(t, 1, "/a", 1)
	v.open(t, 1, "/a", 1)
	v.open(t, 2, "/a", 1)
	for _, c := range [][2]int{{1, 0}, {1, 33}, {1, -1}, {0, 2}, {9, 2}, {3, 2}, {1, 1}, {1, 3}, {math.MaxInt, 2}, {math.MinInt, 2}, {1, math.MaxInt}} {
		v.want(t, v.Close(c[0], c[1]), api.ErrBadFd)
	}
	v.want(t, v.Close(1, 2), api.OK)
	if x, _ := v.Inode(2); x.Opens != [8]int{1, 1} {
		t.Error(x)
	}
	v.want(t, v.Close(1, 2), api.OK)
	v.want(t, v.Close(1, 2), api.ErrBadFd)
	v.want(t, v.Unlink("/a"), api.OK)
	v.want(t, v.Close(2, 2), api.OK)
	v.want(t, v.Close(2, 2), api.ErrBadFd)
	v.open(t, 1, "/b", 1)
	v.spoil(3+1, 2, 7)
	if e := v.Close(1, 2); e != api.ErrBadFd {
		t.Error("an inode that can't be decoded", e)
	}
}

// P14.4: Drop, and files without names and descriptors.
func TestDrop(t *testing.T) {
	v := fresh(t)
	for i := range 5 {
		v.open(t, 1, "/f"+number(i), 1)
		v.open(t, 1, "/f"+number(i), 1)
	}
	v.open(t, 2, "/f1", 0)
	for i := range 3 {
		v.want(t, v.Unlink("/f"+number(i)), api.OK)
	}
	v.fill(t)
	for _, c := range []int{0, 9, -1, math.MaxInt, math.MinInt} {
		v.want(t, v.Drop(c), api.ErrArg)
	}
	v.want(t, v.Drop(3), api.OK)
	v.want(t, v.Drop(1), api.OK)
	for i, want := range []api.Inode{{}, {Kind: 1, Opens: [8]int{1: 1}}, {}, {Kind: 1, Links: 1}, {Kind: 1, Links: 1}} {
		if x, e := v.Inode(i + 2); x != want || e != api.OK {
			t.Error(i, x, e)
		}
	}
	v.want(t, v.Drop(8), api.OK)
	if n := v.Map().Count(); n > 4 {
		t.Error("blocks were not freed", n)
	}
}

// P14.4: many files at once; inodes that cannot be decoded stay.
func TestDropOfAll(t *testing.T) {
	v := fresh(t)
	v.fill(t)
	v.spoil(4, 20, 1)
	v.want2(t, v.Drop(8))
	for i := 2; i <= 32; i++ {
		if x, e := v.Inode(i); i == 20 && e != api.ErrCorrupt || i != 20 && x != (api.Inode{}) {
			t.Error(i, x, e)
		}
	}
}

// want2 is want for a volume with something corrupt.
func (v vol) want2(t *testing.T, e api.Errno) {
	t.Helper()
	if e != api.OK {
		t.Error(e)
	}
	v.end(t, e)
}

// P14.4: blocks of a file are freed when its last name is replaced.
func TestBlocksAreFreed(t *testing.T) {
	for name, end := range map[string]func(v vol) api.Errno{
		"close":  func(v vol) api.Errno { v.end(t, v.Unlink("/a")); return v.Close(1, 2) },
		"unlink": func(v vol) api.Errno { v.end(t, v.Close(1, 2)); return v.Unlink("/a") },
		"drop":   func(v vol) api.Errno { v.end(t, v.Unlink("/a")); return v.Drop(1) },
		"rename": func(v vol) api.Errno { v.end(t, v.Close(1, 2)); return v.Rename("/b", "/a", 0) },
	} {
		v := fresh(t)
		v.open(t, 1, "/a", 1)
		v.open(t, 2, "/b", 1)
		x, _ := v.Inode(2)
		for k := range 3 {
			n, e := v.Block(0)
			v.end(t, e)
			x.Blocks[k], x.Size = n, 64*k+1
		}
		v.want(t, v.SetInode(2, x), api.OK)
		v.want(t, end(v), api.OK)
		if x, _ := v.Inode(2); x != (api.Inode{}) || v.Map().Count() > 2 {
			t.Error(name, x, v.Map().All())
		}
	}
}

// P14.3: the example of the chapter.
func TestExample(t *testing.T) {
	v := fresh(t)
	v.mkdir(t, "/d")
	if i := v.open(t, 1, "/d/a", 1); i != 3 {
		t.Error(i)
	}
	v.stat(t, "/d", api.Dir, 1, 1)
	v.want(t, v.Unlink("/d/a"), api.OK)
	if x, _ := v.Inode(3); x.Kind != api.File {
		t.Error(x)
	}
	v.want(t, v.Close(1, 3), api.OK)
	if x, _ := v.Inode(3); x != (api.Inode{}) {
		t.Error(x)
	}
}

type random uint32

func (r *random) next(n int) int {
	*r = *r*1664525 + 1013904223
	return int(*r>>8) % n
}

// model runs the same calls on a volume and on chapter 6's file system.
type model struct {
	v   vol
	f   *posix.Fs
	fds map[[2]int]int // inodes of the descriptors
}

// meta executes a call; flags beyond 0, 1 and 3 are given as they are.
func (m model) meta(client int, c api.Call) (api.Reply, int) {
	var r api.Reply
	var i int
	switch c.Kind {
	case api.Open:
		full := true
		for fd := range 8 {
			full = full && m.fds[[2]int{client, fd}] != 0
		}
		i, r.Errno = m.v.Open(client, c.Path, c.Flags, full, 0)
	case api.Close:
		r.Errno = m.v.Close(client, m.fds[[2]int{client, c.Fd}])
	case api.Mkdir:
		r.Errno = m.v.Mkdir(c.Path, 0)
	case api.Rmdir:
		r.Errno = m.v.Rmdir(c.Path)
	case api.Link:
		r.Errno = m.v.Link(c.Path, c.Path2, 0)
	case api.Unlink:
		r.Errno = m.v.Unlink(c.Path)
	case api.Rename:
		r.Errno = m.v.Rename(c.Path, c.Path2, 0)
	case api.List:
		r.Names, r.Errno = m.v.List(c.Path)
	case api.Stat:
		r.Info, r.Errno = m.v.Stat(c.Path)
	}
	return r, i
}

// P14.3, P14.4 and P14.6: the calls are those of chapter 6.
func TestAgainstPosix(t *testing.T) {
	r := random(1)
	paths := []string{"/", "/a", "/b", "/d", "/e", "/d/a", "/d/e", "/e/a", "/e/d", "/d/e/a", "/e/d/b", "/d/e/d/e", "/d/e/d/e/a", "bad"}
	for range 3 {
		m := model{fresh(t), posix.New(), map[[2]int]int{}}
		for i := range 1500 {
			client := 1 + r.next(2)
			kinds := []int{api.Open, api.Open, api.Close, api.Mkdir, api.Mkdir, api.Rmdir, api.Link, api.Unlink, api.Rename, api.Rename, api.List, api.Stat}
			c := api.Call{Kind: kinds[r.next(len(kinds))], Path: paths[r.next(len(paths))], Path2: paths[r.next(len(paths))], Flags: r.next(5), Fd: r.next(8)}
			if r.next(100) == 0 {
				m.v.want(t, m.v.Drop(client), api.OK)
				m.f.Drop(client)
				for fd := range 8 {
					delete(m.fds, [2]int{client, fd})
				}
			}
			got, inode := m.meta(client, c)
			m.v.end(t, got.Errno)
			if got.Errno == api.ErrSpace {
				continue
			}
			want := m.f.Do(client, c)
			if got.Errno != want.Errno || got.Info != want.Info || len(got.Names) != len(want.Names) {
				t.Fatal(i, c, got, want)
			}
			if c.Kind == api.Open && got.Errno == api.OK {
				m.fds[[2]int{client, want.Fd}] = inode
			}
			if c.Kind == api.Close && got.Errno == api.OK {
				delete(m.fds, [2]int{client, c.Fd})
			}
			m.v.sound(t)
		}
	}
}
