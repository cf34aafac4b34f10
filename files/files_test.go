package files_test

import (
	"math"
	"slices"
	"strings"
	"testing"

	"commons/api"
	"commons/files"
	"commons/layout"
	"commons/meta"
	"commons/plog"
	"commons/pmem"
	"commons/txn"
)

type vol struct {
	*files.Files
	m   *meta.Meta
	mem *pmem.Memory
	x   *txn.Txn
}

func fresh(t *testing.T) vol {
	t.Helper()
	mem := pmem.New(layout.Size())
	p, _ := layout.Find(layout.Log, 0)
	x := txn.New(mem, plog.New(mem, p.At, p.Size))
	m := meta.New(x)
	if e := m.Format(); e != api.OK {
		t.Fatal(e)
	}
	v := vol{files.New(x, m), m, mem, x}
	v.commit(t)
	return v
}

func (v vol) commit(t *testing.T) {
	t.Helper()
	if e := v.x.Commit(); e != api.OK {
		t.Fatal("commit", e)
	}
}

// file makes a file with some bytes.
func (v vol) file(t *testing.T, path, s string) int {
	t.Helper()
	i, e := v.m.Open(1, path, 1, false, 0)
	if e != api.OK {
		t.Fatal(e)
	}
	v.commit(t)
	if e := v.Set(i, s, 0); e != api.OK {
		t.Fatal(e)
	}
	v.commit(t)
	return i
}

func (v vol) bytes(t *testing.T, i int, want string) {
	t.Helper()
	if s, e := v.Bytes(i); s != want || e != api.OK {
		t.Errorf("%q %d instead of %q", s, e, want)
	}
}

// free lets n blocks be free.
func (v vol) free(t *testing.T, n int) {
	t.Helper()
	m := v.m.Map()
	for m.Count() < api.Blocks-n {
		m = m.Take(m.First(1))
	}
	for m.Count() > api.Blocks-n {
		t.Fatal("too many blocks are used")
	}
	v.m.SetMap(m)
	v.commit(t)
}

func record(off int, data string) api.Record {
	return api.Record{Call: 1, Inode: 2, Off: off, Data: data}
}

func trunc(n int) api.Record {
	return api.Record{Call: 1, Inode: 2, Trunc: true, Off: n}
}

var big = strings.Repeat("0123456789abcdef", 16)

// P15.1
func TestMay(t *testing.T) {
	for i, r := range []api.Record{
		record(0, ""), record(256, ""), record(0, big[:64]), record(192, big[:64]), record(255, "x"), trunc(0), trunc(256),
		{Inode: 1}, {Inode: 32}, {Inode: 1, Call: 1 << 40},
	} {
		if !files.May(r) {
			t.Error(i)
		}
	}
	for i, r := range []api.Record{
		record(-1, ""), record(257, ""), record(0, big[:65]), record(193, big[:64]), record(256, "x"), record(math.MaxInt, "x"), record(math.MinInt, ""), record(0, big),
		trunc(-1), trunc(257), {Inode: 1, Trunc: true, Off: 3, Data: "x"}, {Inode: 0}, {Inode: 33}, {Inode: -1}, {Inode: 1, Call: -1}, {Inode: 1, Call: 1<<40 + 1}, {Inode: math.MaxInt}, {},
	} {
		if files.May(r) {
			t.Error(i)
		}
	}
}

// P15.1
func TestChange(t *testing.T) {
	for i, c := range []struct {
		s    string
		r    api.Record
		want string
		e    api.Errno
	}{
		{"abc", record(1, "x"), "axc", api.OK}, {"abc", record(5, "xy"), "abc\x00\x00xy", api.OK}, {"abc", trunc(1), "a", api.OK}, {"abc", trunc(5), "abc\x00\x00", api.OK},
		{"abc", trunc(3), "abc", api.OK}, {"abc", trunc(0), "", api.OK}, {"", trunc(2), "\x00\x00", api.OK}, {"abc", record(3, "d"), "abcd", api.OK}, {"abc", record(2, "xy"), "abxy", api.OK},
		{"abc", record(0, "xyz"), "xyz", api.OK}, {"abc", record(0, ""), "abc", api.OK}, {"abc", record(200, ""), "abc", api.OK}, {"", record(0, "a"), "a", api.OK},
		{big, record(192, big[:64]), big[:192] + big[:64], api.OK}, {big, record(3, "x"), big[:3] + "x" + big[4:], api.OK}, {"", trunc(256), strings.Repeat("\x00", 256), api.OK},
		{big + "x", record(0, "y"), "", api.ErrBig}, {big + "x", record(0, ""), "", api.ErrBig}, {big + "x", trunc(256), big, api.OK}, {big + "x", trunc(1), "0", api.OK}, {big + big, trunc(0), "", api.OK},
		{big + "x", record(-1, ""), "", api.ErrArg}, {"abc", trunc(257), "", api.ErrArg}, {"abc", record(256, "x"), "", api.ErrArg}, {"abc", api.Record{}, "", api.ErrArg},
	} {
		if s, e := files.Change(c.s, c.r); s != c.want || e != c.e {
			t.Errorf("%d %q %d", i, s, e)
		}
	}
}

// P15.2
func TestNew(t *testing.T) {
	v := fresh(t)
	if files.New(nil, v.m) != nil || files.New(v.x, nil) != nil || files.New(nil, nil) != nil || files.New(v.x, v.m) == nil {
		t.Error("nil")
	}
}

// P15.2
func TestBytes(t *testing.T) {
	v := fresh(t)
	i := v.file(t, "/a", "")
	v.bytes(t, i, "")
	x := api.Inode{Kind: api.File, Links: 1, Size: 70, Blocks: [4]int{9, 5}}
	v.m.SetInode(i, x)
	for n, s := range map[int]string{9: big[:64], 5: "second" + big} {
		p, _ := layout.Find(layout.Data, n)
		v.x.Store(p.At, []byte(s[:64]))
	}
	v.bytes(t, i, big[:64]+"second")
	for i, want := range map[int]api.Errno{0: api.ErrArg, 33: api.ErrArg, -1: api.ErrArg, math.MaxInt: api.ErrArg, 1: api.ErrIsDir, 3: api.ErrNone, 32: api.ErrNone} {
		if s, e := v.Bytes(i); e != want || s != "" {
			t.Error(i, e)
		}
		if e := v.Set(i, big+"x", 0); e != want {
			t.Error(i, e)
		}
	}
	p, _ := layout.Find(layout.Nodes, 7)
	v.mem.Store(p.At, []byte{1})
	if s, e := v.Bytes(7); e != api.ErrCorrupt || s != "" {
		t.Error(e)
	}
	if e := v.Set(7, big+"x", 0); e != api.ErrCorrupt {
		t.Error(e)
	}
}

// P15.3
func TestSet(t *testing.T) {
	v := fresh(t)
	i := v.file(t, "/a", "")
	base := v.m.Map().Count()
	for _, n := range []int{0, 1, 64, 65, 256, 129, 128, 3, 64, 200, 0, 256} {
		s := big[:n]
		if e := v.Set(i, s, 0); e != api.OK {
			t.Fatal(n, e)
		}
		v.bytes(t, i, s)
		v.commit(t)
		v.bytes(t, i, s)
		x, _ := v.m.Inode(i)
		blocks := (n + 63) / 64
		if x.Size != n || v.m.Map().Count() != base+blocks {
			t.Error(n, x, v.m.Map().Count())
		}
		if blocks == 0 {
			continue
		}
		p, _ := layout.Find(layout.Data, x.Blocks[blocks-1])
		want := slices.Concat([]byte(s[64*(blocks-1):]), make([]byte, 64*blocks-n))
		if b, _ := v.x.Load(p.At, 64); !slices.Equal(b, want) {
			t.Error("the rest of the last block", n, b)
		}
	}
	if e := v.Set(i, big+"x", 0); e != api.ErrBig {
		t.Error(e)
	}
	v.bytes(t, i, big)
}

// P15.3: blocks that are needed on stay the same, and only those that are not are freed.
func TestSetKeepsBlocks(t *testing.T) {
	v := fresh(t)
	i := v.file(t, "/a", big[:130])
	before, _ := v.m.Inode(i)
	v.Set(i, big[:100], 0)
	x, _ := v.m.Inode(i)
	if x.Blocks != [4]int{before.Blocks[0], before.Blocks[1]} || v.m.Map().Used(before.Blocks[2]) {
		t.Error(before, x)
	}
	v.commit(t)
	v.Set(i, big[:150], 0)
	y, _ := v.m.Inode(i)
	if y.Blocks != before.Blocks || y.Links != 1 || y.Opens != [8]int{1} {
		t.Error("not the first block that is free", before, y)
	}
}

// P15.3: the spare blocks stay free.
func TestSpare(t *testing.T) {
	v := fresh(t)
	i := v.file(t, "/a", "x")
	v.free(t, 127-2)
	for _, c := range []struct {
		n, spare int
		want     api.Errno
	}{
		{256, 122, api.OK}, {256, 123, api.ErrSpace}, {256, 1000, api.ErrSpace}, {256, math.MaxInt, api.ErrSpace}, {256, -3, api.OK}, {256, math.MinInt, api.OK},
		{65, 124, api.OK}, {65, 125, api.ErrSpace}, {64, 125, api.OK}, {64, math.MaxInt, api.OK}, {0, math.MaxInt, api.OK},
	} {
		before := v.x.Patches()
		if e := v.Set(i, big[:c.n], c.spare); e != c.want {
			t.Error(c, e)
		} else if e != api.OK && !slices.Equal(v.x.Patches(), before) {
			t.Error(c, "a Set that failed stored something")
		}
		v.x.Drop()
	}
}

// P15.3: 127 blocks were not used before the file took its first one.
func TestSpareExample(t *testing.T) {
	v := fresh(t)
	i := v.file(t, "/a", "x")
	if n := v.m.Map().Count(); n != 2 {
		t.Fatal(n)
	}
	if e := v.Set(i, big, 124); e != api.ErrSpace {
		t.Error(e)
	}
	if e := v.Set(i, big, 123); e != api.OK {
		t.Error(e)
	}
}

// P15.3
func TestApply(t *testing.T) {
	v := fresh(t)
	v.file(t, "/a", "abc")
	for i, c := range []struct {
		r    api.Record
		want string
	}{
		{record(1, "x"), "axc"}, {record(5, "yz"), "axc\x00\x00yz"}, {trunc(4), "axc\x00"}, {record(9, ""), "axc\x00"}, {record(64, "w"), "axc\x00" + strings.Repeat("\x00", 60) + "w"}, {trunc(0), ""},
	} {
		if e := v.Apply(c.r, 0); e != api.OK {
			t.Error(i, e)
		}
		v.commit(t)
		v.bytes(t, 2, c.want)
	}
	for i, c := range []struct {
		r    api.Record
		want api.Errno
	}{
		{api.Record{}, api.ErrArg}, {record(257, ""), api.ErrArg}, {api.Record{Inode: 1, Trunc: true, Data: "x"}, api.ErrArg}, {api.Record{Inode: 33}, api.ErrArg},
		{api.Record{Inode: 5, Off: 257}, api.ErrArg}, {api.Record{Inode: 1, Call: -1}, api.ErrArg}, {api.Record{Inode: 1}, api.ErrIsDir}, {api.Record{Inode: 5}, api.ErrNone}, {api.Record{Inode: 5, Off: 3, Data: "x"}, api.ErrNone},
	} {
		if e := v.Apply(c.r, 0); e != c.want || len(v.x.Patches()) > 0 {
			t.Error(i, e)
		}
	}
	v.free(t, 1)
	if e := v.Apply(record(0, "x"), 1); e != api.ErrSpace {
		t.Error(e)
	}
	v.x.Drop()
	if e := v.Apply(record(64, "x"), 0); e != api.ErrSpace {
		t.Error(e)
	}
	v.x.Drop()
	if e := v.Apply(record(63, "x"), 0); e != api.OK {
		t.Error(e)
	}
}

// P15.3: what was stored before a Set that fails stays.
func TestFailedSet(t *testing.T) {
	v := fresh(t)
	a := v.file(t, "/a", "a")
	b := v.file(t, "/b", "b")
	v.free(t, 2)
	v.Set(a, "kept", 0)
	if e := v.Set(b, big, 0); e != api.ErrSpace {
		t.Error(e)
	}
	v.bytes(t, a, "kept")
	v.bytes(t, b, "b")
	v.commit(t)
	v.bytes(t, a, "kept")
	if n := v.m.Map().Count(); n != 126 {
		t.Error(n)
	}
}

// P15.4 and P15.5
func TestManyFiles(t *testing.T) {
	v := fresh(t)
	want := map[int]string{}
	for _, path := range []string{"/a", "/b", "/c", "/d", "/e"} {
		want[v.file(t, path, "")] = ""
	}
	seed := uint32(1)
	next := func(n int) int {
		seed = seed*1664525 + 1013904223
		return int(seed>>8) % n
	}
	for range 400 {
		r := api.Record{Call: 1, Inode: 2 + next(5), Off: next(257)}
		if r.Trunc = next(4) == 0; !r.Trunc {
			r.Data = big[:next(65)]
		}
		if !files.May(r) {
			continue
		}
		want[r.Inode], _ = files.Change(want[r.Inode], r)
		for range 2 {
			if e := v.Apply(r, 0); e != api.OK {
				t.Fatal(r, e)
			}
			v.commit(t)
			blocks := 0
			for i, s := range want {
				v.bytes(t, i, s)
				blocks += (len(s) + 63) / 64
			}
			x, _ := v.m.Inode(layout.Root)
			for _, b := range x.Blocks {
				if b != 0 {
					blocks++
				}
			}
			if v.m.Map().Count() != blocks {
				t.Fatal("blocks", v.m.Map().Count(), blocks)
			}
		}
	}
}
