package meta_test

import (
	"math"
	"slices"
	"testing"

	"commons/api"
	"commons/bits"
	"commons/dir"
	"commons/inode"
	"commons/layout"
	"commons/meta"
	"commons/names"
	"commons/plog"
	"commons/pmem"
	"commons/slots"
	"commons/txn"
)

// P14.1
func TestNew(t *testing.T) {
	if meta.New(nil) != nil {
		t.Error("of nil")
	}
	for _, size := range []int{64 * 4, layout.Size() - 64, layout.Size() + 64, 1 << 20} {
		m := pmem.New(size)
		if meta.New(txn.New(m, plog.New(m, 0, 128))) != nil {
			t.Error(size)
		}
	}
	if _, x := raw(); meta.New(x) == nil {
		t.Error("of a volume")
	}
}

// P14.1
func TestFormat(t *testing.T) {
	mem, x := raw()
	for at := 0; at < layout.Size(); at += 64 {
		if p, _ := layout.Of(at); p.Kind != layout.Log {
			mem.Store(at, slices.Repeat([]byte{0xAB}, 64))
		}
	}
	m := meta.New(x)
	if e := m.Format(); e != api.OK {
		t.Fatal(e)
	}
	if b, _ := mem.Load(0, 1); b[0] != 0xAB {
		t.Error("stored outside the transaction")
	}
	if e := x.Commit(); e != api.OK {
		t.Fatal(e)
	}
	load := func(kind, number int) []byte {
		p, _ := layout.Find(kind, number)
		b, _ := mem.Load(p.At, p.Size)
		return b
	}
	for i := 1; i <= 32; i++ {
		want := api.Inode{}
		if i == layout.Root {
			want = api.Inode{Kind: api.Dir, Links: 1}
		}
		if got, e := inode.Read(load(layout.Nodes, i)); e != api.OK || got != want {
			t.Error("inode", i, got, e)
		}
	}
	for c := 1; c <= 8; c++ {
		if s, e := slots.Read(load(layout.Slots, c)); e != api.OK || s != (api.Slot{}) {
			t.Error("slot", c, s, e)
		}
		if !slices.Equal(load(layout.Logs, c)[:9], []byte{0, 0, 0, 0, 0, 0, 0, 0, 0xAB}) {
			t.Error("log", c)
		}
	}
	if n, e := slots.ReadHead(load(layout.Head, 0)); e != api.OK || n != 0 {
		t.Error("head", n, e)
	}
	if b, _ := bits.Read(load(layout.Bits, 0)); b != (bits.Map{}) || m.Map() != b {
		t.Error("map", b)
	}
}

// P14.2
func TestInode(t *testing.T) {
	v := fresh(t)
	x := api.Inode{Kind: api.File, Links: 3, Size: 65, Blocks: [4]int{9, 8}, Opens: [8]int{1}}
	if e := v.SetInode(32, x); e != api.OK {
		t.Error(e)
	}
	if got, e := v.Inode(32); got != x || e != api.OK {
		t.Error(got, e)
	}
	p, _ := layout.Find(layout.Nodes, 32)
	want, _ := inode.Put(x)
	if b, _ := v.x.Load(p.At, 64); !slices.Equal(b, want) {
		t.Error(b)
	}
	for _, i := range []int{0, 33, -1, math.MaxInt, math.MinInt} {
		if got, e := v.Inode(i); e != api.ErrArg || got != (api.Inode{}) {
			t.Error(i, e)
		}
		if v.SetInode(i, x) != api.ErrArg {
			t.Error(i)
		}
	}
	if v.SetInode(2, api.Inode{Kind: 1, Size: 1}) != api.ErrArg {
		t.Error("an inode that is not valid")
	}
	v.x.Drop()
	if got, e := v.Inode(32); got != (api.Inode{}) || e != api.OK {
		t.Error("after Drop", got, e)
	}
	v.spoil(layout.Nodes, 5, 3)
	if got, e := v.Inode(5); e != api.ErrCorrupt || got != (api.Inode{}) {
		t.Error(e)
	}
}

// P14.2
func TestMap(t *testing.T) {
	v := fresh(t)
	m := bits.Map{}.Take(1).Take(128)
	if e := v.SetMap(m); e != api.OK || v.Map() != m {
		t.Error(e, v.Map())
	}
	p, _ := layout.Find(layout.Bits, 0)
	if b, _ := v.x.Load(p.At, 16); !slices.Equal(b, m.Bytes()) {
		t.Error(b)
	}
	v.x.Drop()
	if v.Map() != (bits.Map{}) {
		t.Error("after Drop")
	}
}

// P14.2
func TestTable(t *testing.T) {
	v := fresh(t)
	if got, e := v.Table(1); got != (dir.Table{}) || e != api.OK {
		t.Error(got, e)
	}
	var want dir.Table
	for i, name := range []string{"a", "b", "ab", "c", "x.y"} {
		want = want.Set(want.Place(name), api.Entry{Name: name, Inode: i + 2})
		v.open(t, 1, "/"+name, 1)
	}
	if got, e := v.Table(1); got != want || e != api.OK {
		t.Error(got, e)
	}
	for i, want := range map[int]api.Errno{0: api.ErrArg, 33: api.ErrArg, -1: api.ErrArg, 2: api.ErrNotDir, 30: api.ErrNotDir} {
		if got, e := v.Table(i); e != want || got != (dir.Table{}) {
			t.Error(i, e)
		}
	}
	x, _ := v.Inode(1)
	v.spoil(layout.Data, x.Blocks[3], 20)
	if got, e := v.Table(1); e != api.ErrCorrupt || got != (dir.Table{}) {
		t.Error(e)
	}
	v.spoil(layout.Nodes, 1, 0)
	if _, e := v.Table(1); e != api.ErrCorrupt {
		t.Error(e)
	}
}

// P14.2
func TestWalk(t *testing.T) {
	v := fresh(t)
	v.mkdir(t, "/d", "/d/e")
	v.open(t, 1, "/d/e/f", 1)
	for path, want := range map[string]int{"/": 1, "/d": 2, "/d/e": 3, "/d/e/f": 4} {
		if i, e := v.Walk(path); i != want || e != api.OK {
			t.Error(path, i, e)
		}
	}
	for path, want := range map[string]api.Errno{"": api.ErrInval, "d": api.ErrInval, "/d/": api.ErrInval, "/x": api.ErrNone, "/d/x": api.ErrNone, "/x/y": api.ErrNone, "/d/e/f/g": api.ErrNotDir, "/d/e/f/g/h": api.ErrNotDir} {
		if i, e := v.Walk(path); i != 0 || e != want {
			t.Error(path, i, e)
		}
	}
}

// P14.2
func TestBlock(t *testing.T) {
	v := fresh(t)
	v.SetMap(bits.Map{}.Take(1).Take(2).Take(3).Take(4).Take(5))
	p, _ := layout.Find(layout.Data, 6)
	v.mem.Store(p.At, slices.Repeat([]byte{7}, 64))
	if n, e := v.Block(0); n != 6 || e != api.OK || v.Map().Count() != 6 || !v.Map().Used(6) {
		t.Error(n, e)
	}
	if b, _ := v.x.Load(p.At, 64); !slices.Equal(b, make([]byte, 64)) {
		t.Error("not bytes 0", b)
	}
	v.x.Drop()
	full := bits.Map(slices.Repeat([]byte{255}, 16))
	for i, c := range []struct {
		free, spare, want int
		e                 api.Errno
	}{
		{0, 0, 0, api.ErrSpace}, {0, -5, 0, api.ErrSpace}, {1, 0, 1, api.OK}, {1, -1, 1, api.OK}, {1, math.MinInt, 1, api.OK},
		{1, 1, 0, api.ErrSpace}, {3, 2, 1, api.OK}, {3, 3, 0, api.ErrSpace}, {16, 100, 0, api.ErrSpace}, {16, math.MaxInt, 0, api.ErrSpace},
	} {
		m := full
		for n := range c.free {
			m = m.Give(n + 1)
		}
		v.SetMap(m)
		if n, e := v.Block(c.spare); n != c.want || e != c.e {
			t.Error(i, n, e)
		}
		v.x.Drop()
	}
}

// beside returns an error, or OK if there is another result beside it.
func beside(e api.Errno, nothing bool) api.Errno {
	if !nothing {
		return api.OK
	}
	return e
}

// P14.3: what is corrupt is said so.
func TestCorrupt(t *testing.T) {
	calls := []func(v vol, path string) api.Errno{
		func(v vol, path string) api.Errno { i, e := v.Walk(path); return beside(e, i == 0) },
		func(v vol, path string) api.Errno { i, e := v.Open(1, path, 1, false, 0); return beside(e, i == 0) },
		func(v vol, path string) api.Errno { return v.Mkdir(path, 0) },
		func(v vol, path string) api.Errno { return v.Rmdir(path) },
		func(v vol, path string) api.Errno { return v.Link(path, "/new", 0) },
		func(v vol, path string) api.Errno { return v.Unlink(path) },
		func(v vol, path string) api.Errno { return v.Rename(path, "/new", 0) },
		func(v vol, path string) api.Errno { return v.Rename("/o", path, 0) },
		func(v vol, path string) api.Errno { return v.Link("/o", path, 0) },
		func(v vol, path string) api.Errno { l, e := v.List(path); return beside(e, len(l) == 0) },
		func(v vol, path string) api.Errno { s, e := v.Stat(path); return beside(e, s == api.Info{}) },
	}
	spoil := []func(v vol){
		func(v vol) { x, _ := v.Inode(3); v.spoil(layout.Data, x.Blocks[names.Hash("f")/4], 2) },
		func(v vol) { v.spoil(layout.Nodes, 3, 0) },
		func(v vol) { v.spoil(layout.Nodes, 4, 10) },
		func(v vol) { v.SetInode(4, api.Inode{}); v.x.Commit() },
		func(v vol) { v.SetInode(3, api.Inode{}); v.x.Commit() },
	}
	for i, s := range spoil {
		v := fresh(t)
		v.open(t, 1, "/o", 1)
		v.mkdir(t, "/d")
		v.open(t, 1, "/d/f", 1)
		s(v)
		for k, call := range calls {
			if e := call(v, "/d/f"); e != api.ErrCorrupt {
				t.Error(i, k, e)
			}
			v.x.Drop()
		}
	}
}

// P14.3: whatever happens to a directory that is not in the way does not matter.
func TestNotNeeded(t *testing.T) {
	v := fresh(t)
	v.mkdir(t, "/d", "/d/e", "/g")
	v.spoil(layout.Nodes, 3, 5)
	v.stat(t, "/d", api.Dir, 1, 1)
	v.list(t, "/d", "e")
	if _, e := v.Stat("/d/e"); e != api.ErrCorrupt {
		t.Error(e)
	}
	if e := v.Rmdir("/g"); e != api.OK {
		t.Error(e)
	}
}
