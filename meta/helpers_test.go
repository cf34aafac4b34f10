package meta_test

import (
	"slices"
	"strconv"
	"testing"

	"commons/api"
	"commons/bits"
	"commons/inode"
	"commons/layout"
	"commons/meta"
	"commons/plog"
	"commons/pmem"
	"commons/txn"
)

// vol is a formatted volume, whose transaction is committed or dropped behind each call.
type vol struct {
	*meta.Meta
	mem  *pmem.Memory
	x    *txn.Txn
	held bits.Map // blocks that belong to nobody
}

func raw() (*pmem.Memory, *txn.Txn) {
	mem := pmem.New(layout.Size())
	p, _ := layout.Find(layout.Log, 0)
	return mem, txn.New(mem, plog.New(mem, p.At, p.Size))
}

func fresh(t *testing.T) vol {
	t.Helper()
	mem, x := raw()
	v := vol{Meta: meta.New(x), mem: mem, x: x}
	v.want(t, v.Format(), api.OK)
	return v
}

// want checks the error of a call, ends the transaction, and checks that the volume is sound.
func (v vol) want(t *testing.T, got, want api.Errno) {
	t.Helper()
	if got != want {
		t.Errorf("error %d instead of %d", got, want)
	}
	v.end(t, got)
	v.sound(t)
}

// end commits a call, or drops it if it failed.
func (v vol) end(t *testing.T, e api.Errno) {
	t.Helper()
	if e != api.OK {
		v.x.Drop()
	}
	if e := v.x.Commit(); e != api.OK {
		t.Fatal("commit", e)
	}
}

func (v vol) open(t *testing.T, client int, path string, flags int) int {
	t.Helper()
	i, e := v.Open(client, path, flags, false, 0)
	v.want(t, e, api.OK)
	return i
}

func (v vol) mkdir(t *testing.T, paths ...string) {
	t.Helper()
	for _, p := range paths {
		v.want(t, v.Mkdir(p, 0), api.OK)
	}
}

func (v vol) list(t *testing.T, path string, want ...string) {
	t.Helper()
	if l, e := v.List(path); e != api.OK || !slices.Equal(l, want) {
		t.Errorf("list %s: %v %d instead of %v", path, l, e, want)
	}
}

func (v vol) stat(t *testing.T, path string, kind, links, size int) {
	t.Helper()
	if s, e := v.Stat(path); e != api.OK || s != (api.Info{Kind: kind, Links: links, Size: size}) {
		t.Errorf("stat %s: %v %d", path, s, e)
	}
}

// take lets only n blocks be free: the others belong to nobody.
func (v *vol) take(t *testing.T, n int) {
	t.Helper()
	m := v.Map()
	for m.Count() < api.Blocks-n {
		b := m.First(1)
		m, v.held = m.Take(b), v.held.Take(b)
	}
	v.want(t, v.SetMap(m), api.OK)
}

// fill makes all inodes that are none files of four blocks, which client 8 has open.
func (v vol) fill(t *testing.T) {
	t.Helper()
	for i := 2; i <= api.Inodes; i++ {
		if x, _ := v.Inode(i); x.Kind != 0 {
			continue
		}
		x := api.Inode{Kind: api.File, Size: 256, Opens: [8]int{7: 1}}
		for k := range x.Blocks {
			b, e := v.Block(0)
			v.end(t, e)
			x.Blocks[k] = b
		}
		v.want(t, v.SetInode(i, x), api.OK)
	}
}

// spoil overwrites a byte of a part.
func (v vol) spoil(kind, number, at int) {
	p, _ := layout.Find(kind, number)
	b, _ := v.mem.Load(p.At+at, 1)
	v.mem.Store(p.At+at, []byte{b[0] ^ 0x55})
}

// sound checks P14.6.
func (v vol) sound(t *testing.T) {
	t.Helper()
	used := v.held
	var names [api.Inodes + 1]int
	names[layout.Root] = 1
	for i := 1; i <= api.Inodes; i++ {
		x, e := v.Inode(i)
		if e != api.OK {
			t.Fatal("inode", i, e)
		}
		for _, b := range x.Blocks {
			if b != 0 && used.Used(b) {
				t.Error("a block of two inodes", b)
			}
			used = used.Take(b)
		}
		if x.Kind != api.Dir {
			continue
		}
		table, e := v.Table(i)
		if e != api.OK || len(table.Names()) != x.Size {
			t.Error("size of a directory", i, e, x.Size)
		}
		for k, b := range x.Blocks {
			if table.Used(k) != (b != 0) {
				t.Error("a block without entries", i, k)
			}
		}
		for _, entry := range table {
			if entry.Inode != 0 {
				names[entry.Inode]++
			}
		}
	}
	if used != v.Map() {
		t.Error("blocks", used.All(), v.Map().All())
	}
	for i := 1; i <= api.Inodes; i++ {
		x, _ := v.Inode(i)
		if x.Kind == 0 && names[i] > 0 || x.Kind != 0 && names[i] != x.Links || x.Kind == api.File && x.Links == 0 && inode.Open(x) == 0 {
			t.Error("links", i, x, names[i])
		}
	}
}

func number(i int) string { return strconv.Itoa(i) }
