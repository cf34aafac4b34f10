package volume_test

import (
	"math"
	"slices"
	"strings"
	"testing"

	"commons/api"
	"commons/clog"
	"commons/inode"
	"commons/layout"
	"commons/num"
	"commons/plog"
	"commons/pmem"
	"commons/slots"
	"commons/volume"
)

func fresh(t *testing.T) (*pmem.Memory, *volume.Volume) {
	t.Helper()
	m := pmem.New(layout.Size())
	if e := volume.Format(m); e != api.OK {
		t.Fatal("format", e)
	}
	return m, mount(t, m)
}

func mount(t *testing.T, m *pmem.Memory) *volume.Volume {
	t.Helper()
	v, e := volume.Mount(m)
	if e != api.OK {
		t.Fatal("mount", e)
	}
	return v
}

func part(kind, number int) layout.Part {
	p, _ := layout.Find(kind, number)
	return p
}

func ok(t *testing.T, e api.Errno) {
	t.Helper()
	if e != api.OK {
		t.Error("error", e)
	}
}

func slot(t *testing.T, v *volume.Volume, client int, want api.Slot) {
	t.Helper()
	if s, e := v.Slot(client); s != want || e != api.OK {
		t.Errorf("slot %d: %+v %d instead of %+v", client, s, e, want)
	}
}

// file makes a file, opened by client 1.
func file(t *testing.T, v *volume.Volume, path string) int {
	t.Helper()
	i, e := v.Meta().Open(1, path, 1, false, 0)
	ok(t, e)
	ok(t, v.Commit())
	return i
}

// write stores a client's log, as the client's verbs do.
func write(m *pmem.Memory, client, epoch int, l ...api.Record) []int {
	var b []byte
	var ends []int
	for _, r := range l {
		x, _ := clog.Encode(r)
		b = append(b, x...)
		ends = append(ends, len(b))
	}
	end, _ := clog.End(epoch, len(b))
	p := part(layout.Logs, client)
	m.Store(p.At, append(num.Put(nil, end, 8), b...))
	m.Flush(p.At, p.Size)
	m.Fence()
	return ends
}

func bytes(t *testing.T, v *volume.Volume, i int, want string) {
	t.Helper()
	if s, e := v.Files().Bytes(i); s != want || e != api.OK {
		t.Errorf("%q %d instead of %q", s, e, want)
	}
}

// P17.1
func TestFormat(t *testing.T) {
	for _, size := range []int{64, layout.Size() - 64, layout.Size() + 64} {
		if e := volume.Format(pmem.New(size)); e != api.ErrArg {
			t.Error(size, e)
		}
	}
	if e := volume.Format(nil); e != api.ErrArg {
		t.Error(e)
	}
	m := pmem.New(layout.Size())
	p := part(layout.Log, 0)
	block := part(layout.Data, 5)
	plog.New(m, p.At, p.Size).Append([]api.Patch{{At: block.At, Data: "old"}})
	ok(t, volume.Format(m))
	if b, _ := m.Load(block.At, 3); !slices.Equal(b, make([]byte, 3)) {
		t.Error("the server's log was redone", b)
	}
	if b, _ := m.Load(p.At, 8); !slices.Equal(b, make([]byte, 8)) {
		t.Error("the server's log", b)
	}
	m.Crash(nil)
	v := mount(t, m)
	if v.Commits() != 0 {
		t.Error(v.Commits())
	}
	for c := 1; c <= 8; c++ {
		slot(t, v, c, api.Slot{})
	}
	if l, e := v.Meta().List("/"); len(l) != 0 || e != api.OK {
		t.Error(l, e)
	}
}

// P17.1: a volume that was there is gone.
func TestFormatAgain(t *testing.T) {
	m, v := fresh(t)
	file(t, v, "/a")
	write(m, 1, 0, api.Record{Call: 1, Inode: 2, Data: "x"})
	ok(t, volume.Format(m))
	v = mount(t, m)
	if l, e := v.Meta().List("/"); len(l) != 0 || e != api.OK || v.Commits() != 0 || len(v.Pending(1)) != 0 {
		t.Error(l, e, v.Commits(), v.Pending(1))
	}
}

// P17.2
func TestMount(t *testing.T) {
	for _, m := range []*pmem.Memory{nil, pmem.New(64), pmem.New(layout.Size() + 64)} {
		if v, e := volume.Mount(m); v != nil || e != api.ErrArg {
			t.Error(e)
		}
	}
	if v, e := volume.Mount(pmem.New(layout.Size())); v != nil || e != api.ErrCorrupt {
		t.Error("bytes 0", e)
	}
	for i, p := range []layout.Part{part(layout.Head, 0), part(layout.Slots, 1), part(layout.Slots, 8), part(layout.Nodes, 1), part(layout.Nodes, 32)} {
		m, _ := fresh(t)
		m.Store(p.At+9, []byte{0x77})
		if v, e := volume.Mount(m); v != nil || e != api.ErrCorrupt {
			t.Error(i, e)
		}
	}
	for i, x := range []api.Inode{{}, {Kind: api.File, Links: 1}} {
		m, _ := fresh(t)
		b, _ := inode.Put(x)
		m.Store(part(layout.Nodes, 1).At, b)
		if v, e := volume.Mount(m); v != nil || e != api.ErrCorrupt {
			t.Error("root", i, e)
		}
	}
	m, _ := fresh(t)
	m.Store(part(layout.Bits, 0).At, []byte{255})
	m.Store(part(layout.Data, 1).At, []byte{255})
	mount(t, m)
}

// P17.2: the log is redone first, even if it mends or spoils what is examined.
func TestMountRedoes(t *testing.T) {
	m, _ := fresh(t)
	p, s := part(layout.Log, 0), part(layout.Slots, 2)
	good, _ := slots.Put(api.Slot{Epoch: 7})
	m.Store(s.At, make([]byte, 64))
	plog.New(m, p.At, p.Size).Append([]api.Patch{{At: s.At, Data: string(good)}})
	v := mount(t, m)
	slot(t, v, 2, api.Slot{Epoch: 7})
	plog.New(m, p.At, p.Size).Append([]api.Patch{{At: s.At, Data: "bad"}})
	if v, e := volume.Mount(m); v != nil || e != api.ErrCorrupt {
		t.Error(e)
	}
	if b, _ := m.Load(p.At, 8); !slices.Equal(b, make([]byte, 8)) {
		t.Error("the log was not cleared", b)
	}
}

// P17.3
func TestCommit(t *testing.T) {
	m, v := fresh(t)
	ok(t, v.Commit())
	if v.Commits() != 0 {
		t.Error("nothing was stored", v.Commits())
	}
	ok(t, v.SetSlot(1, api.Slot{Epoch: 1}))
	slot(t, v, 1, api.Slot{Epoch: 1})
	slot(t, mount(t, m), 1, api.Slot{})
	if v.Commits() != 0 {
		t.Error("before Commit", v.Commits())
	}
	ok(t, v.Commit())
	m.Crash(nil)
	if w := mount(t, m); v.Commits() != 1 || w.Commits() != 1 {
		t.Error(v.Commits(), w.Commits())
	}
	ok(t, v.Fence(1))
	slot(t, v, 1, api.Slot{Epoch: 2})
	if v.Commits() != 2 {
		t.Error(v.Commits())
	}
	ok(t, v.Meta().Mkdir("/d", 0))
	v.Drop()
	ok(t, v.Commit())
	if l, _ := v.Meta().List("/"); len(l) != 0 || v.Commits() != 2 {
		t.Error("after Drop", l, v.Commits())
	}
}

// P17.3: a change that is too great is dropped.
func TestCommitWithoutRoom(t *testing.T) {
	m, v := fresh(t)
	ok(t, v.Meta().Mkdir("/d", 0))
	for k := range 15 {
		ok(t, v.Store(part(layout.Data, 100).At, []byte(strings.Repeat("x", 250+k%2))))
	}
	if e := v.Commit(); e != api.ErrFull {
		t.Error(e)
	}
	if len(v.Patches()) != 0 || v.Commits() != 0 {
		t.Error(len(v.Patches()), v.Commits())
	}
	for range 64 {
		ok(t, v.Store(0, nil))
	}
	if e := v.Commit(); e == api.OK || len(v.Patches()) != 0 {
		t.Error(e, len(v.Patches()))
	}
	ok(t, v.Meta().Mkdir("/d", 0))
	ok(t, v.Commit())
	if l, _ := mount(t, m).Meta().List("/"); !slices.Equal(l, []string{"d"}) {
		t.Error(l)
	}
}

// P17.3
func TestCommitsAsSeen(t *testing.T) {
	_, v := fresh(t)
	b, _ := slots.PutHead(77)
	v.Store(part(layout.Head, 0).At, b)
	if v.Commits() != 77 {
		t.Error(v.Commits())
	}
	ok(t, v.Commit())
	if v.Commits() != 78 {
		t.Error(v.Commits())
	}
}

// P17.4
func TestSlot(t *testing.T) {
	m, v := fresh(t)
	s := api.Slot{Epoch: 3, Head: 8, Rpc: 5, Kept: api.Answer{Errno: 18, Inode: 2}, Wrote: 4}
	ok(t, v.SetSlot(8, s))
	slot(t, v, 8, s)
	v.Drop()
	slot(t, v, 8, api.Slot{})
	for _, c := range []int{0, 9, -1, math.MaxInt, math.MinInt} {
		if s, e := v.Slot(c); s != (api.Slot{}) || e != api.ErrArg {
			t.Error(c, e)
		}
		if e := v.SetSlot(c, s); e != api.ErrArg {
			t.Error(c, e)
		}
		if len(v.Pending(c)) != 0 || v.Fence(c) != api.ErrArg {
			t.Error(c)
		}
		if l, e := v.Take(c); len(l) > 0 || e != api.ErrArg {
			t.Error(c, l, e)
		}
	}
	if e := v.SetSlot(1, api.Slot{Head: 1025}); e != api.ErrArg || len(v.Patches()) != 0 {
		t.Error(e)
	}
	m.Store(part(layout.Slots, 3).At, []byte{9})
	if s, e := v.Slot(3); s != (api.Slot{}) || e != api.ErrCorrupt {
		t.Error(e)
	}
	if l, e := v.Take(3); len(l) > 0 || e != api.ErrCorrupt || v.Fence(3) != api.ErrCorrupt || len(v.Pending(3)) > 0 {
		t.Error(l, e)
	}
}

var three = []api.Record{{Call: 11, Inode: 2, Data: "abc"}, {Call: 12, Inode: 2, Off: 5, Data: "xy"}, {Call: 13, Inode: 2, Trunc: true, Off: 6}}

// P17.4
func TestPending(t *testing.T) {
	m, v := fresh(t)
	ends := write(m, 2, 4, three...)
	for i, c := range []struct {
		s    api.Slot
		want []api.Record
	}{
		{api.Slot{}, nil}, {api.Slot{Epoch: 3}, nil}, {api.Slot{Epoch: 4}, three}, {api.Slot{Epoch: 4, Head: ends[0]}, three[1:]}, {api.Slot{Epoch: 4, Head: ends[2]}, nil}, {api.Slot{Epoch: 4, Head: 1024}, nil}, {api.Slot{Epoch: 5}, nil},
	} {
		ok(t, v.SetSlot(2, c.s))
		if l := v.Pending(2); !slices.Equal(l, c.want) {
			t.Error(i, l)
		}
		if l := v.Pending(1); len(l) != 0 {
			t.Error("another client's", l)
		}
	}
}

// P17.5
func TestTake(t *testing.T) {
	m, v := fresh(t)
	i := file(t, v, "/a")
	before := v.Commits()
	ends := write(m, 2, 0, three...)
	l, e := v.Take(2)
	if !slices.Equal(l, three) || e != api.OK || v.Commits() != before+3 {
		t.Error(l, e, v.Commits())
	}
	slot(t, v, 2, api.Slot{Head: ends[2], Wrote: 13})
	bytes(t, v, i, "abc\x00\x00x")
	if l, e := v.Take(2); len(l) != 0 || e != api.OK || v.Commits() != before+3 {
		t.Error("taken twice", l, e)
	}
	more := append(slices.Clone(three), api.Record{Call: 14, Inode: 2, Data: "Z"})
	ends = write(m, 2, 0, more...)
	if l, e := v.Take(2); !slices.Equal(l, more[3:]) || e != api.OK {
		t.Error(l, e)
	}
	slot(t, v, 2, api.Slot{Head: ends[3], Wrote: 14})
	m.Crash(nil)
	bytes(t, mount(t, m), i, "Zbc\x00\x00x")
}

// P17.5: a record that cannot be applied is left behind.
func TestTakeOfBadRecords(t *testing.T) {
	m, v := fresh(t)
	i := file(t, v, "/a")
	before := v.Commits()
	l := []api.Record{{Call: 1, Inode: 9, Data: "none"}, {Call: 2, Inode: 2, Data: "good"}, {Call: 3, Inode: 1, Data: "root"}}
	ends := write(m, 5, 0, l...)
	got, e := v.Take(5)
	if !slices.Equal(got, l[1:2]) || e != api.OK || v.Commits() != before+3 {
		t.Error(got, e, v.Commits())
	}
	slot(t, v, 5, api.Slot{Head: ends[2], Wrote: 3})
	bytes(t, v, i, "good")
}

// P17.5: without room a record is left behind, and nothing of it stays.
func TestTakeWithoutRoom(t *testing.T) {
	m, v := fresh(t)
	i := file(t, v, "/a")
	used := v.Meta().Map()
	for used.Count() < 127 {
		used = used.Take(used.First(1))
	}
	ok(t, v.Meta().SetMap(used))
	ok(t, v.Commit())
	l := []api.Record{{Call: 1, Inode: 2, Data: "a"}, {Call: 2, Inode: 2, Off: 64, Data: "b"}, {Call: 3, Inode: 2, Off: 1, Data: "c"}}
	write(m, 1, 0, l...)
	if got, e := v.Take(1); !slices.Equal(got, []api.Record{l[0], l[2]}) || e != api.OK {
		t.Error(got, e)
	}
	bytes(t, v, i, "ac")
	if v.Meta().Map().Count() != 128 {
		t.Error(v.Meta().Map().Count())
	}
}

// P17.6
func TestFence(t *testing.T) {
	m, v := fresh(t)
	s := api.Slot{Epoch: 3, Head: 8, Rpc: 5, Kept: api.Answer{Errno: 18, Inode: 2}, Wrote: 4}
	ok(t, v.SetSlot(4, s))
	ok(t, v.Commit())
	write(m, 4, 3, three...)
	ok(t, v.Fence(4))
	s.Epoch, s.Head = 4, 0
	slot(t, v, 4, s)
	if v.Commits() != 2 || len(v.Pending(4)) != 0 {
		t.Error(v.Commits(), v.Pending(4))
	}
	m.Crash(nil)
	slot(t, mount(t, m), 4, s)
	s.Epoch = api.MaxEpoch
	ok(t, v.SetSlot(4, s))
	ok(t, v.Commit())
	if e := v.Fence(4); e != api.ErrArg || v.Commits() != 3 {
		t.Error(e, v.Commits())
	}
	slot(t, v, 4, s)
}

// P17.6
func TestRecover(t *testing.T) {
	m, v := fresh(t)
	i := file(t, v, "/a")
	write(m, 1, 0, three[:1]...)
	write(m, 8, 0, api.Record{Call: 9, Inode: 2, Off: 3, Data: "8"})
	write(m, 3, 5, three...)
	ok(t, v.Recover())
	bytes(t, v, i, "abc8")
	for c := 1; c <= 8; c++ {
		slot(t, v, c, api.Slot{Epoch: 1, Wrote: map[int]int{1: 11, 8: 9}[c]})
	}
	if v.Commits() != 1+2+8 {
		t.Error(v.Commits())
	}
	ok(t, v.SetSlot(1, api.Slot{Epoch: api.MaxEpoch}))
	if e := v.Recover(); e != api.ErrArg {
		t.Error(e)
	}
}

// crashes calls f for crashes in which each cell that is dirty persists or not.
func crashes(f func(picks []int)) {
	seed := uint32(3)
	for range 60 {
		picks := make([]int, 200)
		for i := range picks {
			seed = seed*1664525 + 1013904223
			picks[i] = int(seed >> 20)
		}
		f(picks)
	}
	f(nil)
}

// P17.7: crashes while a change is committed, played by its stores without its fences.
func TestCommitIsWhole(t *testing.T) {
	p := part(layout.Log, 0)
	crashes(func(picks []int) {
		m, v := fresh(t)
		file(t, v, "/a")
		ok(t, v.Meta().Mkdir("/d", 0))
		ok(t, v.Files().Set(2, "new bytes", 0))
		patches := v.Patches()
		b, _ := plog.Encode(patches)
		m.Store(p.At+8, b)
		m.Crash(picks)
		v = mount(t, m)
		bytes(t, v, 2, "")
		if l, _ := v.Meta().List("/"); !slices.Equal(l, []string{"a"}) {
			t.Fatal(l)
		}
		plog.New(m, p.At, p.Size).Append(patches)
		for _, x := range patches[:firstPick(picks)%len(patches)] {
			m.Store(x.At, []byte(x.Data))
		}
		m.Crash(picks)
		v = mount(t, m)
		m.Crash(nil)
		v = mount(t, m)
		bytes(t, v, 2, "new bytes")
		if l, _ := v.Meta().List("/"); !slices.Equal(l, []string{"a", "d"}) {
			t.Fatal(l)
		}
	})
}

func firstPick(picks []int) int {
	if len(picks) == 0 {
		return 0
	}
	return picks[0]
}

// P17.7: what was committed survives, and what was only stored is gone.
func TestCommittedSurvives(t *testing.T) {
	crashes(func(picks []int) {
		m, v := fresh(t)
		file(t, v, "/a")
		ok(t, v.Files().Set(2, "kept", 0))
		ok(t, v.Commit())
		ok(t, v.Files().Set(2, "lost", 0))
		m.Crash(picks)
		v = mount(t, m)
		bytes(t, v, 2, "kept")
	})
}

// P17.8
func TestNoRecordTwice(t *testing.T) {
	m, v := fresh(t)
	i := file(t, v, "/a")
	write(m, 2, 0, three...)
	v.Take(2)
	ok(t, v.Files().Set(i, "since then", 0))
	ok(t, v.Commit())
	m.Crash(nil)
	v = mount(t, m)
	if l, _ := v.Take(2); len(l) != 0 {
		t.Error(l)
	}
	ok(t, v.Recover())
	ok(t, v.Recover())
	if l, _ := v.Take(2); len(l) != 0 {
		t.Error(l)
	}
	bytes(t, v, i, "since then")
	write(m, 2, 0, three...)
	if l, _ := v.Take(2); len(l) != 0 {
		t.Error("a record of an earlier epoch", l)
	}
	write(m, 2, 2, three[:1]...)
	if l, _ := v.Take(2); !slices.Equal(l, three[:1]) {
		t.Error(l)
	}
	bytes(t, v, i, "abcce then")
}
