package posix_test

import (
	"math"
	"slices"
	"strconv"
	"strings"
	"testing"

	"commons/api"
	"commons/posix"
)

func open(path string, flags int) api.Call {
	return api.Call{Kind: api.Open, Path: path, Flags: flags}
}

func at(kind int, path string) api.Call {
	return api.Call{Kind: kind, Path: path}
}

func two(kind int, path, path2 string) api.Call {
	return api.Call{Kind: kind, Path: path, Path2: path2}
}

func write(fd, off int, data string) api.Call {
	return api.Call{Kind: api.Write, Fd: fd, Off: off, Data: data}
}

func read(fd, off, n int) api.Call {
	return api.Call{Kind: api.Read, Fd: fd, Off: off, N: n}
}

func trunc(fd, n int) api.Call {
	return api.Call{Kind: api.Trunc, Fd: fd, N: n}
}

func on(kind, fd int) api.Call {
	return api.Call{Kind: kind, Fd: fd}
}

func failed(e api.Errno) api.Reply { return api.Reply{Errno: e} }
func gotFd(fd int) api.Reply       { return api.Reply{Fd: fd} }
func data(s string) api.Reply      { return api.Reply{Data: s} }
func list(l ...string) api.Reply   { return api.Reply{Names: l} }

func info(kind, links, size int) api.Reply {
	return api.Reply{Info: api.Info{Kind: kind, Links: links, Size: size}}
}

var done api.Reply

type step struct {
	client int
	call   api.Call
	want   api.Reply
}

func equal(a, b api.Reply) bool {
	return a.Errno == b.Errno && a.Fd == b.Fd && a.Data == b.Data && a.Info == b.Info && slices.Equal(a.Names, b.Names)
}

// run executes the steps; one that fails must change nothing.
func run(t *testing.T, f *posix.Fs, l ...step) {
	t.Helper()
	for i, s := range l {
		before := f.Copy()
		got := f.Do(s.client, s.call)
		if !equal(got, s.want) {
			t.Errorf("step %d: %+v: %+v instead of %+v", i, s.call, got, s.want)
		}
		if got.Errno != api.OK && !f.Same(before) {
			t.Errorf("step %d: a call that failed changed something", i)
		}
	}
}

// P6.1
func TestNew(t *testing.T) {
	run(t, posix.New(),
		step{1, at(api.List, "/"), list()},
		step{1, at(api.Stat, "/"), info(api.Dir, 1, 0)},
		step{1, on(api.Sync, 0), failed(api.ErrBadFd)},
	)
}

// P6.1
func TestWhoAndWhat(t *testing.T) {
	f := posix.New()
	for _, c := range []int{0, 9, -1, math.MaxInt, math.MinInt} {
		run(t, f, step{c, at(api.Stat, "/"), failed(api.ErrArg)}, step{c, api.Call{Kind: 99}, failed(api.ErrArg)})
	}
	for _, k := range []int{0, 14, -1, 20, math.MaxInt, math.MinInt} {
		run(t, f, step{1, api.Call{Kind: k, Path: "/"}, failed(api.ErrInval)})
	}
	run(t, f, step{8, at(api.Stat, "/"), info(api.Dir, 1, 0)})
}

// P6.1: Open.
func TestOpen(t *testing.T) {
	f := posix.New()
	run(t, f,
		step{1, open("/a", 0), failed(api.ErrNone)},
		step{1, open("/a", 2), failed(api.ErrInval)},
		step{1, open("/a", 4), failed(api.ErrInval)},
		step{1, open("/a", -1), failed(api.ErrInval)},
		step{1, open("bad", 2), failed(api.ErrInval)},
		step{1, open("bad", 1), failed(api.ErrInval)},
		step{1, open("/a", 1), gotFd(0)},
		step{1, at(api.Stat, "/a"), info(api.File, 1, 0)},
		step{2, open("/a", 0), gotFd(0)},
		step{1, open("/a", 3), failed(api.ErrExist)},
		step{1, open("/b", 3), gotFd(1)},
		step{1, open("/a", 1), gotFd(2)},
		step{1, at(api.Mkdir, "/d"), done},
		step{1, open("/d", 0), failed(api.ErrIsDir)},
		step{1, open("/d", 1), failed(api.ErrIsDir)},
		step{1, open("/d", 3), failed(api.ErrExist)},
		step{1, open("/", 1), failed(api.ErrIsDir)},
		step{1, open("/", 3), failed(api.ErrExist)},
		step{1, open("/x/y", 1), failed(api.ErrNone)},
		step{1, open("/a/y", 1), failed(api.ErrNotDir)},
		step{1, open("/a/y/z", 3), failed(api.ErrNotDir)},
		step{1, on(api.Close, 1), done},
		step{1, open("/d/c", 1), gotFd(1)},
		step{1, at(api.List, "/d"), list("c")},
	)
}

// P6.1: Open without a free descriptor.
func TestManyFd(t *testing.T) {
	f := posix.New()
	for fd := range api.MaxFds {
		run(t, f, step{3, open("/a", 1), gotFd(fd)})
	}
	run(t, f,
		step{3, open("/a", 0), failed(api.ErrManyFd)},
		step{3, open("/b", 1), failed(api.ErrManyFd)},
		step{3, open("/b", 0), failed(api.ErrNone)},
		step{3, open("/a", 3), failed(api.ErrExist)},
		step{3, open("/", 0), failed(api.ErrIsDir)},
		step{4, open("/b", 0), failed(api.ErrNone)},
		step{4, open("/a", 0), gotFd(0)},
		step{3, on(api.Close, 5), done},
		step{3, on(api.Close, 2), done},
		step{3, open("/a", 0), gotFd(2)},
	)
}

// P6.1: Close and Sync.
func TestCloseAndSync(t *testing.T) {
	f := posix.New()
	run(t, f,
		step{1, open("/a", 1), gotFd(0)},
		step{1, on(api.Sync, 0), done},
		step{2, on(api.Sync, 0), failed(api.ErrBadFd)},
		step{2, on(api.Close, 0), failed(api.ErrBadFd)},
		step{1, on(api.Close, 1), failed(api.ErrBadFd)},
		step{1, on(api.Close, -1), failed(api.ErrBadFd)},
		step{1, on(api.Close, math.MaxInt), failed(api.ErrBadFd)},
		step{1, on(api.Close, 0), done},
		step{1, on(api.Close, 0), failed(api.ErrBadFd)},
		step{1, on(api.Sync, 0), failed(api.ErrBadFd)},
	)
}

// P6.1: Read and Write.
func TestReadAndWrite(t *testing.T) {
	f := posix.New()
	full := strings.Repeat("f", 64)
	run(t, f,
		step{1, open("/a", 1), gotFd(0)},
		step{2, open("/a", 1), gotFd(0)},
		step{1, read(0, 0, 64), data("")},
		step{1, write(0, 3, "xyz"), done},
		step{2, read(0, 2, 3), data("\x00xy")},
		step{2, read(0, 2, 64), data("\x00xyz")},
		step{2, read(0, 5, 1), data("z")},
		step{2, read(0, 6, 1), data("")},
		step{2, read(0, math.MaxInt, 64), data("")},
		step{2, read(0, 0, 0), data("")},
		step{1, read(0, -1, 0), failed(api.ErrInval)},
		step{1, read(0, 0, -1), failed(api.ErrInval)},
		step{1, read(0, 0, 65), failed(api.ErrInval)},
		step{1, read(1, -1, 65), failed(api.ErrBadFd)},
		step{1, write(0, 4, "Y"), done},
		step{1, read(0, 0, 64), data("\x00\x00\x00xYz")},
		step{1, write(1, -1, "x"), failed(api.ErrBadFd)},
		step{1, write(0, -1, ""), failed(api.ErrInval)},
		step{1, write(0, 0, full+"f"), failed(api.ErrInval)},
		step{1, write(0, 9999, ""), done},
		step{1, write(0, math.MaxInt, ""), done},
		step{1, write(0, math.MaxInt, "x"), failed(api.ErrBig)},
		step{1, write(0, 193, full), failed(api.ErrBig)},
		step{1, write(0, 256, "x"), failed(api.ErrBig)},
		step{1, at(api.Stat, "/a"), info(api.File, 1, 6)},
		step{1, write(0, 192, full), done},
		step{1, at(api.Stat, "/a"), info(api.File, 1, 256)},
		step{1, read(0, 191, 64), data("\x00" + full[1:])},
		step{1, read(0, 255, 64), data("f")},
	)
}

// P6.1: Trunc.
func TestTrunc(t *testing.T) {
	f := posix.New()
	run(t, f,
		step{1, open("/a", 1), gotFd(0)},
		step{1, write(0, 0, "abcdef"), done},
		step{1, trunc(0, 3), done},
		step{1, read(0, 0, 64), data("abc")},
		step{1, trunc(0, 5), done},
		step{1, read(0, 0, 64), data("abc\x00\x00")},
		step{1, trunc(0, -1), failed(api.ErrInval)},
		step{1, trunc(0, 257), failed(api.ErrBig)},
		step{1, trunc(0, math.MaxInt), failed(api.ErrBig)},
		step{1, trunc(3, -1), failed(api.ErrBadFd)},
		step{1, trunc(0, 256), done},
		step{1, at(api.Stat, "/a"), info(api.File, 1, 256)},
		step{1, trunc(0, 0), done},
		step{1, at(api.Stat, "/a"), info(api.File, 1, 0)},
	)
}

// P6.1: Mkdir and Rmdir.
func TestMkdirAndRmdir(t *testing.T) {
	f := posix.New()
	run(t, f,
		step{1, at(api.Mkdir, "/d"), done},
		step{1, at(api.Mkdir, "/d"), failed(api.ErrExist)},
		step{1, at(api.Mkdir, "/"), failed(api.ErrExist)},
		step{1, at(api.Mkdir, "/d/"), failed(api.ErrInval)},
		step{1, at(api.Mkdir, ""), failed(api.ErrInval)},
		step{1, at(api.Mkdir, "/x/y"), failed(api.ErrNone)},
		step{1, at(api.Mkdir, "/d/e"), done},
		step{2, open("/f", 1), gotFd(0)},
		step{1, at(api.Mkdir, "/f"), failed(api.ErrExist)},
		step{1, at(api.Mkdir, "/f/x"), failed(api.ErrNotDir)},
		step{1, at(api.Mkdir, "/f/x/y"), failed(api.ErrNotDir)},
		step{1, at(api.Stat, "/d"), info(api.Dir, 1, 1)},
		step{1, at(api.List, "/"), list("d", "f")},
		step{1, at(api.Rmdir, "/"), failed(api.ErrInval)},
		step{1, at(api.Rmdir, "x"), failed(api.ErrInval)},
		step{1, at(api.Rmdir, "/x"), failed(api.ErrNone)},
		step{1, at(api.Rmdir, "/f"), failed(api.ErrNotDir)},
		step{1, at(api.Rmdir, "/f/x"), failed(api.ErrNotDir)},
		step{1, at(api.Rmdir, "/d"), failed(api.ErrInside)},
		step{1, at(api.Rmdir, "/d/e"), done},
		step{1, at(api.Rmdir, "/d"), done},
		step{1, at(api.List, "/"), list("f")},
		step{1, at(api.Mkdir, "/1"), done},
		step{1, at(api.Mkdir, "/1/2"), done},
		step{1, at(api.Mkdir, "/1/2/3"), done},
		step{1, at(api.Mkdir, "/1/2/3/4"), done},
		step{1, at(api.Mkdir, "/1/2/3/4/5"), done},
		step{1, at(api.Mkdir, "/1/2/3/4/5/6"), done},
		step{1, at(api.Mkdir, "/1/2/3/4/5/6/7"), failed(api.ErrInval)},
	)
}

// P6.1: Link and Unlink.
func TestLinkAndUnlink(t *testing.T) {
	f := posix.New()
	run(t, f,
		step{1, open("/a", 1), gotFd(0)},
		step{1, at(api.Mkdir, "/d"), done},
		step{1, two(api.Link, "/a", "/d/b"), done},
		step{1, at(api.Stat, "/d/b"), info(api.File, 2, 0)},
		step{1, write(0, 0, "x"), done},
		step{2, open("/d/b", 0), gotFd(0)},
		step{2, read(0, 0, 9), data("x")},
		step{1, two(api.Link, "/", "bad"), failed(api.ErrInval)},
		step{1, two(api.Link, "bad", "/x"), failed(api.ErrInval)},
		step{1, two(api.Link, "/x", "/y"), failed(api.ErrNone)},
		step{1, two(api.Link, "/a/x", "/y"), failed(api.ErrNotDir)},
		step{1, two(api.Link, "/d", "/a"), failed(api.ErrIsDir)},
		step{1, two(api.Link, "/", "/"), failed(api.ErrIsDir)},
		step{1, two(api.Link, "/a", "/"), failed(api.ErrExist)},
		step{1, two(api.Link, "/a", "/x/y"), failed(api.ErrNone)},
		step{1, two(api.Link, "/a", "/a/y"), failed(api.ErrNotDir)},
		step{1, two(api.Link, "/a", "/a"), failed(api.ErrExist)},
		step{1, two(api.Link, "/a", "/d"), failed(api.ErrExist)},
		step{1, at(api.Unlink, "/"), failed(api.ErrIsDir)},
		step{1, at(api.Unlink, "/d"), failed(api.ErrIsDir)},
		step{1, at(api.Unlink, "/x"), failed(api.ErrNone)},
		step{1, at(api.Unlink, "x"), failed(api.ErrInval)},
		step{1, at(api.Unlink, "/a/b"), failed(api.ErrNotDir)},
		step{1, at(api.Unlink, "/a"), done},
		step{1, at(api.Stat, "/a"), failed(api.ErrNone)},
		step{1, at(api.Stat, "/d/b"), info(api.File, 1, 1)},
		step{1, at(api.Unlink, "/d/b"), done},
		step{1, read(0, 0, 9), data("x")},
		step{1, write(0, 1, "y"), done},
		step{2, read(0, 0, 9), data("xy")},
		step{1, on(api.Close, 0), done},
		step{2, read(0, 0, 9), data("xy")},
		step{1, open("/a", 1), gotFd(0)},
		step{1, read(0, 0, 9), data("")},
	)
}

// P6.1: Link up to MaxLinks.
func TestMaxLinks(t *testing.T) {
	f := posix.New()
	run(t, f, step{1, open("/l0", 1), gotFd(0)})
	for i := 1; i < api.MaxLinks; i++ {
		run(t, f, step{1, two(api.Link, "/l0", "/l"+strconv.Itoa(i)), done})
	}
	run(t, f,
		step{1, two(api.Link, "/l0", "/more"), failed(api.ErrLinks)},
		step{1, two(api.Link, "/l0", "/l1"), failed(api.ErrExist)},
		step{1, at(api.Stat, "/l19"), info(api.File, 20, 0)},
		step{1, at(api.Unlink, "/l7"), done},
		step{1, two(api.Link, "/l0", "/more"), done},
		step{1, two(api.Rename, "/l1", "/l2"), done},
		step{1, two(api.Rename, "/l2", "/renamed"), done},
		step{1, at(api.Stat, "/l0"), info(api.File, 20, 0)},
	)
}

// P6.1: Rename.
func TestRename(t *testing.T) {
	f := posix.New()
	run(t, f,
		step{1, at(api.Mkdir, "/d"), done},
		step{1, at(api.Mkdir, "/d/e"), done},
		step{1, at(api.Mkdir, "/g"), done},
		step{1, open("/a", 1), gotFd(0)},
		step{1, open("/b", 1), gotFd(1)},
		step{1, write(0, 0, "A"), done},
		step{1, write(1, 0, "B"), done},
		step{1, two(api.Rename, "/", "/x"), failed(api.ErrInval)},
		step{1, two(api.Rename, "/a", "/"), failed(api.ErrInval)},
		step{1, two(api.Rename, "/a", "x"), failed(api.ErrInval)},
		step{1, two(api.Rename, "x", "/a"), failed(api.ErrInval)},
		step{1, two(api.Rename, "/x", "x"), failed(api.ErrInval)},
		step{1, two(api.Rename, "/x", "/y"), failed(api.ErrNone)},
		step{1, two(api.Rename, "/x", "/a/y"), failed(api.ErrNone)},
		step{1, two(api.Rename, "/a/x", "/y"), failed(api.ErrNotDir)},
		step{1, two(api.Rename, "/d", "/d/e"), failed(api.ErrInval)},
		step{1, two(api.Rename, "/d", "/d/x/y"), failed(api.ErrInval)},
		step{1, two(api.Rename, "/d", "/d"), done},
		step{1, two(api.Rename, "/a", "/a"), done},
		step{1, two(api.Rename, "/a", "/a/x"), failed(api.ErrNotDir)},
		step{1, two(api.Rename, "/a", "/x/y"), failed(api.ErrNone)},
		step{1, two(api.Rename, "/d", "/a"), failed(api.ErrNotDir)},
		step{1, two(api.Rename, "/g", "/d"), failed(api.ErrInside)},
		step{1, two(api.Rename, "/d/e", "/d"), failed(api.ErrInside)},
		step{1, two(api.Rename, "/a", "/d"), failed(api.ErrIsDir)},
		step{1, two(api.Rename, "/a", "/g"), failed(api.ErrIsDir)},
		step{1, two(api.Rename, "/d", "/g"), done},
		step{1, at(api.List, "/"), list("a", "b", "g")},
		step{1, at(api.List, "/g"), list("e")},
		step{1, two(api.Rename, "/a", "/g/b"), done},
		step{1, two(api.Rename, "/b", "/g/b"), done},
		step{1, at(api.List, "/"), list("g")},
		step{2, open("/g/b", 0), gotFd(0)},
		step{2, read(0, 0, 9), data("B")},
		step{1, read(0, 0, 9), data("A")},
		step{1, two(api.Link, "/g/b", "/c"), done},
		step{1, two(api.Rename, "/c", "/g/b"), done},
		step{1, at(api.Stat, "/c"), info(api.File, 2, 1)},
		step{1, open("/o", 1), gotFd(2)},
		step{1, two(api.Rename, "/o", "/c"), done},
		step{1, at(api.Stat, "/g/b"), info(api.File, 1, 1)},
		step{1, at(api.Stat, "/c"), info(api.File, 1, 0)},
		step{1, two(api.Rename, "/g", "/h"), done},
		step{1, at(api.List, "/h"), list("b", "e")},
	)
}

// P6.1: a directory may come to lie deeper than any path.
func TestRenameDeep(t *testing.T) {
	f := posix.New()
	for _, p := range []string{"/1", "/1/2", "/1/2/3", "/1/2/3/4", "/a", "/a/b", "/a/b/c", "/a/b/c/d"} {
		run(t, f, step{1, at(api.Mkdir, p), done})
	}
	run(t, f,
		step{1, two(api.Rename, "/a", "/1/2/3/4/a"), done},
		step{1, at(api.List, "/1/2/3/4/a/b"), list("c")},
		step{1, at(api.Rmdir, "/1/2/3/4/a/b"), failed(api.ErrInside)},
		step{1, two(api.Rename, "/1/2/3/4/a", "/a"), done},
		step{1, at(api.List, "/a/b/c"), list("d")},
	)
}

// P6.1: List and Stat.
func TestListAndStat(t *testing.T) {
	f := posix.New()
	for _, p := range []string{"/b", "/a", "/ab", "/-", "/d"} {
		run(t, f, step{1, at(api.Mkdir, p), done})
	}
	run(t, f,
		step{1, open("/0", 1), gotFd(0)},
		step{1, at(api.List, "/"), list("-", "0", "a", "ab", "b", "d")},
		step{1, at(api.Stat, "/"), info(api.Dir, 1, 6)},
		step{1, at(api.List, "/0"), failed(api.ErrNotDir)},
		step{1, at(api.List, "/0/x"), failed(api.ErrNotDir)},
		step{1, at(api.List, "/x"), failed(api.ErrNone)},
		step{1, at(api.List, "x"), failed(api.ErrInval)},
		step{1, at(api.Stat, "/x"), failed(api.ErrNone)},
		step{1, at(api.Stat, "/0/x"), failed(api.ErrNotDir)},
		step{1, at(api.Stat, ""), failed(api.ErrInval)},
	)
	r := f.Do(1, at(api.List, "/"))
	r.Names[0] = "changed"
	run(t, f, step{1, at(api.Stat, "/-"), info(api.Dir, 1, 0)}, step{1, at(api.List, "/"), list("-", "0", "a", "ab", "b", "d")})
}

// P6.2
func TestDrop(t *testing.T) {
	f := posix.New()
	run(t, f,
		step{1, open("/a", 1), gotFd(0)},
		step{1, open("/a", 1), gotFd(1)},
		step{2, open("/a", 1), gotFd(0)},
		step{1, write(0, 0, "x"), done},
		step{1, at(api.Unlink, "/a"), done},
	)
	g := f.Copy()
	for _, c := range []int{0, 9, 3, -1, math.MaxInt, math.MinInt} {
		f.Drop(c)
	}
	if !f.Same(g) {
		t.Error("a Drop of nothing changed something")
	}
	f.Drop(1)
	run(t, f,
		step{1, on(api.Sync, 0), failed(api.ErrBadFd)},
		step{1, on(api.Sync, 1), failed(api.ErrBadFd)},
		step{2, read(0, 0, 9), data("x")},
	)
}

// small returns a file system with a bit of everything.
func small() *posix.Fs {
	f := posix.New()
	f.Do(1, at(api.Mkdir, "/d"))
	f.Do(1, open("/d/a", 1))
	f.Do(1, write(0, 0, "same"))
	f.Do(1, open("/d/b", 1))
	f.Do(1, write(1, 0, "same"))
	f.Do(1, two(api.Link, "/d/a", "/c"))
	f.Do(2, open("/gone", 1))
	f.Do(2, open("/gone", 1))
	f.Do(2, write(0, 0, "gone"))
	f.Do(2, at(api.Unlink, "/gone"))
	return f
}

// P6.2
func TestCopyAndSame(t *testing.T) {
	f := small()
	g := f.Copy()
	if !f.Same(f) || !f.Same(g) || !g.Same(f) || !f.Same(small()) {
		t.Fatal("not the same")
	}
	if f.Same(posix.New()) || posix.New().Same(f) || !posix.New().Same(posix.New()) {
		t.Fatal("the same as an empty one")
	}
	for i, change := range [][]step{
		{{1, at(api.Mkdir, "/e"), done}},
		{{1, at(api.Mkdir, "/d/e"), done}},
		{{1, write(0, 0, "Same"), done}},
		{{1, write(0, 4, "r"), done}},
		{{2, write(0, 0, "GONE"), done}},
		{{1, two(api.Rename, "/c", "/cc"), done}},
		{{1, two(api.Link, "/c", "/cc"), done}},
		{{1, at(api.Unlink, "/c"), done}},
		{{1, at(api.Unlink, "/c"), done}, {1, two(api.Link, "/d/b", "/c"), done}},
		{{3, open("/c", 0), gotFd(0)}},
		{{2, on(api.Close, 1), done}},
		{{2, on(api.Close, 0), done}},
		{{1, on(api.Close, 0), done}, {1, open("/d/b", 0), gotFd(0)}},
		{{2, on(api.Close, 1), done}, {2, open("/new", 1), gotFd(1)}, {2, write(1, 0, "gone"), done}, {2, at(api.Unlink, "/new"), done}},
		{{1, two(api.Rename, "/d", "/e"), done}},
	} {
		h := f.Copy()
		run(t, h, change...)
		if h.Same(f) || f.Same(h) {
			t.Error("a change is not seen", i)
		}
		if !f.Same(g) {
			t.Fatal("a change of the copy changed the original", i)
		}
	}
	g.Do(2, write(0, 4, "!"))
	run(t, g, step{2, read(1, 0, 9), data("gone!")})
	run(t, f, step{2, read(1, 0, 9), data("gone")})
}

// P6.2: a kind alone makes a difference, and so does where a name stands.
func TestSameLooksAtKindsAndPlaces(t *testing.T) {
	make := func(l ...api.Call) *posix.Fs {
		f := posix.New()
		for _, c := range l {
			if e := f.Do(1, c).Errno; e != api.OK {
				t.Fatal(c, e)
			}
		}
		f.Drop(1)
		return f
	}
	if make(at(api.Mkdir, "/a")).Same(make(open("/a", 1))) {
		t.Error("a directory and a file")
	}
	if make(at(api.Mkdir, "/a"), at(api.Mkdir, "/a/b"), at(api.Mkdir, "/c")).Same(make(at(api.Mkdir, "/a"), at(api.Mkdir, "/a/b"), at(api.Mkdir, "/a/c"))) {
		t.Error("a name in another directory")
	}
	if !make(open("/a", 1), open("/b", 1), at(api.Unlink, "/b")).Same(make(open("/a", 1))) {
		t.Error("a file that does not exist any more")
	}
}

// random returns calls of a fixed sequence that looks random.
type random uint32

func (r *random) next(n int) int {
	*r = *r*1664525 + 1013904223
	return int(*r>>8) % n
}

func (r *random) path() string {
	l := []string{"/", "/a", "/b", "/d", "/e", "/d/a", "/d/e", "/e/a", "/e/d", "/d/e/a", "/e/d/b", "bad", "/d/"}
	return l[r.next(len(l))]
}

func (r *random) call() api.Call {
	c := api.Call{
		Kind: r.next(15), Path: r.path(), Path2: r.path(), Flags: r.next(4), Fd: r.next(4) - 1,
		Off: r.next(300) - 5, N: r.next(70) - 2, Data: strings.Repeat("d", r.next(66)),
	}
	if c.Kind == api.Trunc {
		c.N = r.next(270) - 5
	}
	return c
}

func descriptors(f *posix.Fs, client int) []api.Reply {
	var l []api.Reply
	for fd := range api.MaxFds {
		l = append(l, f.Do(client, read(fd, 0, 0)))
	}
	return l
}

// P6.3 and P6.5
func TestFailedCallsAndOtherClients(t *testing.T) {
	f := posix.New()
	r := random(1)
	for i := range 4000 {
		who, other := 1+r.next(3), 1+r.next(3)
		before, fds := f.Copy(), descriptors(f, other)
		c := r.call()
		got := f.Do(who, c)
		if got.Errno != api.OK {
			if !f.Same(before) {
				t.Fatal(i, c, "failed and changed something")
			}
			if !equal(got, failed(got.Errno)) {
				t.Fatal(i, "fields beside an error", got)
			}
		}
		if who != other && !slices.EqualFunc(descriptors(f, other), fds, equal) {
			t.Fatal(i, c, "changed another client's descriptors")
		}
	}
}

// P6.4
func TestWrittenIsRead(t *testing.T) {
	f := posix.New()
	f.Do(1, open("/a", 1))
	f.Do(2, open("/a", 1))
	r := random(7)
	var want []byte
	for i := range 2000 {
		off, n := r.next(256), 1+r.next(64)
		b := []byte(strings.Repeat(string(rune('a'+i%26)), n))
		if f.Do(1, write(0, off, string(b))).Errno == api.OK {
			for len(want) < off+n {
				want = append(want, 0)
			}
			copy(want[off:], b)
		}
		got := f.Do(2, read(0, off, n)).Data
		if end := min(len(want), off+n); got != string(want[min(off, end):end]) {
			t.Fatal(i, got)
		}
	}
}

// R4
func TestArgumentsAreNotKept(t *testing.T) {
	f, g := posix.New(), posix.New()
	l := []api.Call{open("/a", 1), write(0, 0, "x")}
	for _, c := range l {
		f.Do(1, c)
	}
	if f.Same(g) {
		t.Error("nothing happened")
	}
	f.Same(g)
	if !g.Same(posix.New()) {
		t.Error("Same changed its argument")
	}
}
