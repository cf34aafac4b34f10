package pmem_test

import (
	"math"
	"slices"
	"testing"

	"commons/api"
	"commons/pmem"
)

func seen(t *testing.T, m *pmem.Memory, at int, want ...byte) {
	t.Helper()
	if b, e := m.Load(at, len(want)); e != api.OK || !slices.Equal(b, want) {
		t.Error("visible", b, e, "instead of", want)
	}
}

func lasting(t *testing.T, m *pmem.Memory, at int, want ...byte) {
	t.Helper()
	if b, e := m.Lasts(at, len(want)); e != api.OK || !slices.Equal(b, want) {
		t.Error("durable", b, e, "instead of", want)
	}
}

func dirty(t *testing.T, m *pmem.Memory, want ...int) {
	t.Helper()
	if l := m.Dirty(); !slices.Equal(l, want) {
		t.Error("dirty", l, "instead of", want)
	}
}

// P3.1
func TestNew(t *testing.T) {
	for _, size := range []int{64, 128, 23168, 1 << 20} {
		m := pmem.New(size)
		if m == nil || m.Size() != size {
			t.Fatal(size)
		}
		b, e := m.Load(0, size)
		c, f := m.Lasts(0, size)
		if e != api.OK || f != api.OK || !slices.Equal(b, make([]byte, size)) || !slices.Equal(c, b) {
			t.Error("not bytes 0", size)
		}
		dirty(t, m)
	}
	for _, size := range []int{0, -64, 1, 63, 65, 100, 1<<20 + 64, 1<<20 - 1, math.MaxInt, math.MinInt} {
		if pmem.New(size) != nil {
			t.Error(size)
		}
	}
}

// P3.1
func TestLoadBounds(t *testing.T) {
	m := pmem.New(128)
	for i, c := range []struct {
		at, n int
		want  api.Errno
	}{
		{0, 128, api.OK}, {127, 1, api.OK}, {128, 0, api.OK}, {0, 0, api.OK}, {5, 0, api.OK},
		{127, 2, api.ErrArg}, {128, 1, api.ErrArg}, {129, 0, api.ErrArg}, {-1, 1, api.ErrArg}, {-1, 0, api.ErrArg},
		{0, -1, api.ErrArg}, {0, 129, api.ErrArg}, {64, -1, api.ErrArg},
		{math.MaxInt, math.MaxInt, api.ErrArg}, {1, math.MaxInt, api.ErrArg}, {math.MaxInt, 1, api.ErrArg}, {math.MinInt, math.MinInt, api.ErrArg},
	} {
		b, e := m.Load(c.at, c.n)
		d, f := m.Lasts(c.at, c.n)
		if e != c.want || f != c.want {
			t.Error(i, e, f)
		}
		if e == api.OK && (len(b) != c.n || len(d) != c.n) || e != api.OK && (len(b) > 0 || len(d) > 0) {
			t.Error(i, len(b), len(d))
		}
		if g := m.Flush(c.at, c.n); g != c.want {
			t.Error("Flush", i, g)
		}
	}
}

// P3.1 and R4
func TestResultsAreNew(t *testing.T) {
	m := pmem.New(64)
	arg := []byte{1, 2}
	m.Store(0, arg)
	arg[0] = 9
	b, _ := m.Load(0, 2)
	b[1] = 9
	c, _ := m.Lasts(0, 2)
	c[0] = 9
	seen(t, m, 0, 1, 2)
	lasting(t, m, 0, 0, 0)
}

// P3.2
func TestStore(t *testing.T) {
	m := pmem.New(128)
	if m.Store(126, []byte{1, 2}) != api.OK {
		t.Error("at the end")
	}
	seen(t, m, 125, 0, 1, 2)
	lasting(t, m, 125, 0, 0, 0)
	dirty(t, m, 15)
	for i, at := range []int{127, 128, -1, -2, math.MaxInt, math.MinInt} {
		if m.Store(at, []byte{7, 7}) != api.ErrArg {
			t.Error(i)
		}
	}
	if m.Store(0, make([]byte, 129)) != api.ErrArg {
		t.Error("too long")
	}
	if m.Store(0, nil) != api.OK || m.Store(3, []byte{}) != api.OK {
		t.Error("of nothing")
	}
	dirty(t, m, 15)
	m.Store(126, []byte{0, 0})
	dirty(t, m)
}

// P3.2
func TestFlushAndFence(t *testing.T) {
	m := pmem.New(256)
	m.Store(0, []byte{1})
	m.Store(63, []byte{2})
	m.Store(64, []byte{3})
	m.Store(128, []byte{4})
	m.Fence()
	dirty(t, m, 0, 7, 8, 16)
	m.Flush(30, 1)
	dirty(t, m, 0, 7, 8, 16)
	m.Fence()
	dirty(t, m, 8, 16)
	m.Flush(100, 0)
	m.Fence()
	dirty(t, m, 8, 16)
	m.Flush(127, 2)
	m.Fence()
	dirty(t, m)
	lasting(t, m, 0, 1)
	lasting(t, m, 63, 2, 3)
	lasting(t, m, 128, 4)
}

// P3.2: a cell that is written after its flush is no longer pending, and its neighbour still is.
func TestStoreAfterFlush(t *testing.T) {
	m := pmem.New(64)
	m.Store(0, make([]byte, 0))
	m.Store(4, []byte{1, 2, 3, 4, 5, 6, 7, 8})
	m.Flush(0, 1)
	m.Store(8, []byte{5})
	m.Store(1, nil)
	m.Fence()
	dirty(t, m, 1)
	lasting(t, m, 4, 1, 2, 3, 4, 0, 0, 0, 0)
	m.Flush(0, 64)
	m.Fence()
	dirty(t, m)
}

// P3.2: what was stored with the values that it had is no longer pending, too.
func TestStoreOfTheSame(t *testing.T) {
	m := pmem.New(64)
	m.Store(0, []byte{1})
	m.Flush(0, 1)
	m.Store(7, []byte{0})
	m.Fence()
	dirty(t, m, 0)
}

// P3.2: an empty Store changes nothing, not even within a cell.
func TestEmptyStoreKeepsPending(t *testing.T) {
	m := pmem.New(64)
	m.Store(8, []byte{1, 2, 3})
	m.Flush(8, 1)
	m.Store(9, nil)
	m.Fence()
	dirty(t, m)
}

// P3.2
func TestEvict(t *testing.T) {
	m := pmem.New(128)
	m.Store(60, []byte{1, 2, 3, 4, 5, 6, 7, 8})
	for _, line := range []int{2, -1, 128, math.MaxInt, math.MinInt} {
		if m.Evict(line) != api.ErrArg {
			t.Error(line)
		}
	}
	dirty(t, m, 7, 8)
	if m.Evict(1) != api.OK {
		t.Error("the last line")
	}
	dirty(t, m, 7)
	lasting(t, m, 60, 0, 0, 0, 0, 5, 6, 7, 8)
	m.Flush(0, 1)
	m.Evict(0)
	m.Store(60, []byte{9})
	m.Fence()
	lasting(t, m, 60, 1)
	dirty(t, m, 7)
}

// P3.3
func TestCrash(t *testing.T) {
	for i, c := range []struct {
		picks []int
		want  []byte
	}{
		{nil, []byte{0, 0, 0, 0}}, {[]int{1}, []byte{1, 2, 0, 0}}, {[]int{0, 1}, []byte{0, 0, 3, 4}},
		{[]int{3, 5, 7}, []byte{1, 2, 3, 4}}, {[]int{2, 4}, []byte{0, 0, 0, 0}},
		{[]int{-1, -2}, []byte{0, 0, 3, 4}}, {[]int{-2, -1}, []byte{1, 2, 0, 0}},
		{[]int{math.MinInt, math.MaxInt - 1}, []byte{1, 2, 0, 0}},
	} {
		m := pmem.New(64)
		m.Store(6, []byte{1, 2, 3, 4})
		dirty(t, m, 0, 1)
		picks := slices.Clone(c.picks)
		m.Crash(picks)
		seen(t, m, 6, c.want...)
		lasting(t, m, 6, c.want...)
		dirty(t, m)
		if !slices.Equal(picks, c.picks) {
			t.Error("the argument was changed", i)
		}
	}
}

// P3.3: dirty cells are numbered, not cells; and a crash ends what was pending.
func TestCrashNumbersDirtyCells(t *testing.T) {
	m := pmem.New(192)
	m.Store(16, []byte{1})
	m.Store(100, []byte{2})
	m.Store(191, []byte{3})
	m.Flush(16, 1)
	m.Crash([]int{0, 1, 0})
	seen(t, m, 16, 0)
	seen(t, m, 100, 2)
	seen(t, m, 191, 0)
	m.Store(16, []byte{5})
	m.Fence()
	lasting(t, m, 16, 0)
}

// P3.2 and P3.3: the examples.
func TestExamples(t *testing.T) {
	m := pmem.New(64)
	m.Store(0, []byte{1, 2})
	m.Flush(0, 1)
	m.Crash(nil)
	seen(t, m, 0, 0, 0)
	m.Store(0, []byte{1, 2})
	m.Flush(0, 1)
	m.Fence()
	m.Crash(nil)
	seen(t, m, 0, 1, 2)
}

// P3.4
func TestFlushedSurvives(t *testing.T) {
	for pick := range 4 {
		m := pmem.New(128)
		m.Store(50, []byte("a text of more than one line"))
		m.Flush(50, 28)
		m.Fence()
		m.Store(0, []byte("dirt"))
		m.Crash([]int{pick, pick / 2, 1, 1, 1, 1})
		seen(t, m, 50, []byte("a text of more than one line")...)
	}
}

// P3.5
func TestCellsAreWhole(t *testing.T) {
	seed := uint32(1)
	next := func(n int) int {
		seed = seed*1664525 + 1013904223
		return int(seed>>16) % n
	}
	for range 300 {
		m := pmem.New(128)
		for range next(12) {
			switch at := next(120); next(4) {
			case 0:
				m.Flush(at, next(9))
			case 1:
				m.Evict(next(2))
			default:
				m.Store(at, []byte{byte(next(9)), byte(next(9)), byte(next(9)), 4, 5, 6, 7, 8}[:next(9)])
			}
		}
		was, _ := m.Lasts(0, 128)
		now, _ := m.Load(0, 128)
		m.Crash([]int{next(9), next(9), next(9), next(9), next(9), next(9)})
		got, _ := m.Load(0, 128)
		for at := 0; at < 128; at += 8 {
			if c := got[at : at+8]; !slices.Equal(c, was[at:at+8]) && !slices.Equal(c, now[at:at+8]) {
				t.Fatal("a torn cell", c, was[at:at+8], now[at:at+8])
			}
		}
	}
}
