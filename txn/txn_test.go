package txn_test

import (
	"math"
	"slices"
	"strings"
	"testing"

	"commons/api"
	"commons/plog"
	"commons/pmem"
	"commons/txn"
)

// fresh returns a memory of 1024 bytes whose last 512 are its log, and a transaction.
func fresh() (*pmem.Memory, *plog.Log, *txn.Txn) {
	m := pmem.New(1024)
	l := plog.New(m, 512, 512)
	return m, l, txn.New(m, l)
}

func load(t *testing.T, x interface {
	Load(int, int) ([]byte, api.Errno)
}, at int, want string) {
	t.Helper()
	if b, e := x.Load(at, len(want)); string(b) != want || e != api.OK {
		t.Errorf("%q %v instead of %q", b, e, want)
	}
}

// P9.1
func TestNew(t *testing.T) {
	m, l, x := fresh()
	if txn.New(nil, l) != nil || txn.New(m, nil) != nil || txn.New(nil, nil) != nil || x == nil {
		t.Error("nil")
	}
	if len(x.Patches()) != 0 {
		t.Error(x.Patches())
	}
}

// P9.1
func TestLoad(t *testing.T) {
	m, _, x := fresh()
	m.Store(0, []byte("0123456789"))
	load(t, x, 0, "0123456789")
	x.Store(3, []byte("abcd"))
	x.Store(5, []byte("xyz"))
	x.Store(2, []byte("q"))
	load(t, x, 0, "01qabxyz89")
	load(t, x, 4, "bx")
	load(t, x, 7, "z8")
	load(t, x, 2, "q")
	load(t, x, 5, "")
	load(t, m, 0, "0123456789")
	for i, c := range [][2]int{{-1, 1}, {0, -1}, {1024, 1}, {1023, 2}, {0, 1025}, {math.MaxInt, math.MaxInt}, {math.MinInt, 1}, {1025, 0}} {
		if b, e := x.Load(c[0], c[1]); e != api.ErrArg || len(b) > 0 {
			t.Error(i, e)
		}
	}
	if b, e := x.Load(1024, 0); e != api.OK || len(b) > 0 {
		t.Error("at the end", e)
	}
}

// P9.1: the memory is seen as it is now.
func TestLoadSeesTheMemory(t *testing.T) {
	m, _, x := fresh()
	x.Store(1, []byte("b"))
	m.Store(0, []byte("AAA"))
	load(t, x, 0, "AbA")
}

// P9.2
func TestStore(t *testing.T) {
	_, _, x := fresh()
	big := strings.Repeat("b", 256)
	want := []api.Patch{{At: 5, Data: "x"}, {At: 5}, {At: 768, Data: big}, {At: 1023, Data: "z"}}
	for i, p := range want {
		if e := x.Store(p.At, []byte(p.Data)); e != api.OK {
			t.Error(i, e)
		}
	}
	for i, c := range []struct {
		at int
		b  []byte
	}{{0, make([]byte, 257)}, {-1, []byte{1}}, {1024, []byte{1}}, {1023, []byte{1, 2}}, {math.MaxInt, []byte{1}}, {math.MinInt, []byte{1}}, {769, []byte(big)}} {
		if e := x.Store(c.at, c.b); e != api.ErrArg {
			t.Error(i, e)
		}
	}
	if !slices.Equal(x.Patches(), want) {
		t.Error(x.Patches())
	}
	x.Patches()[0].At = 9
	if !slices.Equal(x.Patches(), want) {
		t.Error("shared")
	}
}

// P9.2
func TestMaxWrites(t *testing.T) {
	_, _, x := fresh()
	for i := range 64 {
		if e := x.Store(i, nil); e != api.OK {
			t.Error(i, e)
		}
	}
	if e := x.Store(0, nil); e != api.ErrArg || len(x.Patches()) != 64 {
		t.Error(e, len(x.Patches()))
	}
}

// P9.2 and R4
func TestStoreKeepsNothing(t *testing.T) {
	_, _, x := fresh()
	b := []byte("abc")
	x.Store(0, b)
	b[0] = 'X'
	load(t, x, 0, "abc")
	got, _ := x.Load(0, 3)
	got[1] = 'X'
	load(t, x, 0, "abc")
}

// P9.2
func TestDrop(t *testing.T) {
	m, l, x := fresh()
	x.Drop()
	x.Store(0, []byte("abc"))
	x.Drop()
	if len(x.Patches()) != 0 || x.Commit() != api.OK || l.End() != 0 {
		t.Error(x.Patches())
	}
	load(t, x, 0, "\x00")
	load(t, m, 0, "\x00")
}

// P9.3: the example of the chapter.
func TestCommit(t *testing.T) {
	m, l, x := fresh()
	x.Store(3, []byte("ab"))
	x.Store(4, []byte("x"))
	load(t, x, 3, "ax")
	load(t, m, 3, "\x00\x00")
	if e := x.Commit(); e != api.OK || len(x.Patches()) != 0 || l.End() != 0 || len(l.Records()) != 0 {
		t.Error(e, x.Patches(), l.End())
	}
	load(t, m, 3, "ax")
	load(t, x, 3, "ax")
	if b, _ := m.Lasts(3, 2); string(b) != "ax" {
		t.Error("not durable")
	}
}

// P9.3
func TestCommitOfNothing(t *testing.T) {
	m, l, x := fresh()
	l.Append([]api.Patch{{At: 0, Data: "x"}})
	if e := x.Commit(); e != api.OK || len(l.Records()) != 1 {
		t.Error(e, l.Records())
	}
	load(t, m, 0, "\x00")
	x.Store(1, nil)
	if e := x.Commit(); e != api.OK || len(l.Records()) != 0 {
		t.Error(e, l.Records())
	}
	load(t, m, 0, "x")
}

// P9.3
func TestCommitWithoutRoom(t *testing.T) {
	m, l, x := fresh()
	big := []byte(strings.Repeat("b", 250))
	x.Store(0, big)
	x.Store(0, big)
	if e := x.Commit(); e != api.ErrFull || len(x.Patches()) != 2 || l.End() != 0 {
		t.Error(e, len(x.Patches()))
	}
	load(t, m, 0, "\x00")
	load(t, x, 0, "b")
	x.Drop()
	x.Store(0, big)
	if e := x.Commit(); e != api.OK {
		t.Error("after Drop", e)
	}
}

// P9.4: a crash between Append and Redo.
func TestAtomic(t *testing.T) {
	for pick := range 64 {
		m, l, x := fresh()
		x.Store(3, []byte("a text of several cells"))
		x.Store(100, []byte("another place"))
		l.Append(x.Patches())
		m.Store(3, []byte("a text of several cells"))
		m.Crash([]int{pick, pick >> 1, pick >> 2, pick >> 3, pick >> 4, pick >> 5})
		plog.New(m, 512, 512).Redo()
		m.Crash(nil)
		load(t, m, 3, "a text of several cells")
		load(t, m, 100, "another place")
	}
}

// P9.4: what was committed survives every crash; what was not is gone.
func TestDurable(t *testing.T) {
	for pick := range 16 {
		m, l, x := fresh()
		x.Store(3, []byte("kept"))
		x.Commit()
		x.Store(3, []byte("lost"))
		m.Crash([]int{pick, pick >> 1, pick >> 2, pick >> 3})
		if l.Redo() != 0 {
			t.Error("something to redo")
		}
		load(t, m, 3, "kept")
	}
}
