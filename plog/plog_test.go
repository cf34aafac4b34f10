package plog_test

import (
	"math"
	"slices"
	"strings"
	"testing"

	"commons/api"
	"commons/crc"
	"commons/num"
	"commons/plog"
	"commons/pmem"
)

func patch(at int, data string) api.Patch { return api.Patch{At: at, Data: data} }

// record returns the bytes of a record, whatever its patches are.
func record(count int, rest ...byte) []byte {
	b := append(num.Put(nil, count, 2), rest...)
	b = num.Put(b, int(crc.Sum(b)), 4)
	return append(b, make([]byte, num.Up(len(b), 8)-len(b))...)
}

func equal(a, b [][]api.Patch) bool {
	return slices.EqualFunc(a, b, slices.Equal[[]api.Patch])
}

// P8.1
func TestEncode(t *testing.T) {
	big := strings.Repeat("b", 256)
	for i, c := range []struct {
		l    []api.Patch
		want []byte
	}{
		{[]api.Patch{patch(258, "\x05")}, record(1, 2, 1, 0, 0, 1, 0, 5)},
		{nil, record(0)},
		{[]api.Patch{patch(0, "")}, record(1, 0, 0, 0, 0, 0, 0)},
		{[]api.Patch{patch(1<<32-1, "ab"), patch(7, "")}, record(2, 255, 255, 255, 255, 2, 0, 'a', 'b', 7, 0, 0, 0, 0, 0)},
		{[]api.Patch{patch(1, big)}, record(1, append([]byte{1, 0, 0, 0, 0, 1}, big...)...)},
	} {
		if b, e := plog.Encode(c.l); e != api.OK || !slices.Equal(b, c.want) {
			t.Error(i, e, b)
		}
	}
	if b, _ := plog.Encode([]api.Patch{patch(258, "\x05")}); len(b) != 16 || !slices.Equal(b[:9], []byte{1, 0, 2, 1, 0, 0, 1, 0, 5}) || !slices.Equal(b[13:], []byte{0, 0, 0}) {
		t.Error("the example", b)
	}
	if _, e := plog.Encode(make([]api.Patch, 64)); e != api.OK {
		t.Error("64 patches", e)
	}
	for i, l := range [][]api.Patch{make([]api.Patch, 65), {patch(-1, "")}, {patch(1<<32, "")}, {patch(math.MinInt, "x")}, {patch(0, ""), patch(0, big+"b")}} {
		if b, e := plog.Encode(l); e != api.ErrArg || len(b) > 0 {
			t.Error(i, e)
		}
	}
}

// P8.1
func TestDecode(t *testing.T) {
	l := []api.Patch{patch(3, "abc"), patch(900000, "z"), patch(5, "")}
	b, _ := plog.Encode(l)
	got, n, e := plog.Decode(append(slices.Clone(b), 1, 2, 3))
	if !slices.Equal(got, l) || n != len(b) || e != api.OK {
		t.Error(got, n, e)
	}
	for n := range len(b) {
		if got, n, e := plog.Decode(b[:n]); len(got) > 0 || n != 0 || e != api.ErrShort {
			t.Error(n, e)
		}
	}
}

// P8.1
func TestDecodeErrors(t *testing.T) {
	one := record(1, 2, 1, 0, 0, 1, 0, 5)
	changed := func(at int) []byte {
		b := slices.Clone(one)
		b[at]++
		return b
	}
	for i, c := range []struct {
		b    []byte
		want api.Errno
	}{
		{nil, api.ErrShort}, {[]byte{1}, api.ErrShort}, {[]byte{65}, api.ErrShort},
		{[]byte{65, 0}, api.ErrBytes}, {[]byte{0, 1}, api.ErrBytes}, {[]byte{64, 0}, api.ErrShort},
		{one[:12], api.ErrShort}, {one[:13], api.ErrShort}, {one[:15], api.ErrShort}, {one, api.OK},
		{[]byte{1, 0, 0, 0, 0, 0, 1, 1}, api.ErrBytes}, {[]byte{1, 0, 0, 0, 0, 0, 0, 1}, api.ErrShort},
		{[]byte{1, 0, 255, 255}, api.ErrShort}, {[]byte{1, 0, 0, 0, 255, 255, 255}, api.ErrShort},
		{changed(0), api.ErrShort}, {changed(2), api.ErrSum}, {changed(8), api.ErrSum}, {changed(12), api.ErrSum},
		{changed(12)[:13], api.ErrSum}, {changed(13), api.ErrBytes}, {changed(15), api.ErrBytes}, {changed(14)[:15], api.ErrShort},
		{make([]byte, 64), api.ErrSum}, {make([]byte, 5), api.ErrShort},
	} {
		if l, n, e := plog.Decode(c.b); e != c.want || e != api.OK && (len(l) > 0 || n != 0) {
			t.Error(i, e, l, n)
		}
	}
}

// P8.2
func TestNew(t *testing.T) {
	m := pmem.New(1 << 17)
	for i, c := range []struct {
		m        *pmem.Memory
		at, size int
		ok       bool
	}{
		{m, 0, 128, true}, {m, 64, 1 << 16, true}, {m, 1<<17 - 128, 128, true}, {m, 1 << 16, 1 << 16, true},
		{nil, 0, 128, false}, {m, 0, 64, false}, {m, 0, 0, false}, {m, 0, 130, false}, {m, 8, 128, false}, {m, 0, 1<<16 + 64, false},
		{m, -64, 128, false}, {m, 1<<17 - 64, 128, false}, {m, 1 << 17, 128, false}, {m, 0, -128, false},
		{m, math.MaxInt - 63, 128, false}, {m, math.MinInt, 128, false}, {m, 0, math.MaxInt - 63, false},
	} {
		if l := plog.New(c.m, c.at, c.size); (l != nil) != c.ok {
			t.Error(i)
		}
	}
	if l := plog.New(m, 64, 128); l.End() != 0 || len(l.Records()) != 0 {
		t.Error("of bytes 0")
	}
}

// P8.2
func TestEnd(t *testing.T) {
	m := pmem.New(512)
	l := plog.New(m, 64, 128)
	for _, c := range [][2]int{{0, 0}, {8, 8}, {5, 5}, {120, 120}, {121, 0}, {128, 0}, {math.MaxInt, 0}} {
		m.Store(64, num.Put(nil, c[0], 8))
		if l.End() != c[1] {
			t.Error(c, l.End())
		}
	}
	m.Store(64, []byte{8, 0, 0, 0, 0, 0, 0, 128})
	if l.End() != 0 {
		t.Error("not a number")
	}
}

// P8.3
func TestAppend(t *testing.T) {
	m := pmem.New(512)
	l := plog.New(m, 64, 192)
	first := []api.Patch{patch(3, "abc"), patch(900000, "z")}
	second := []api.Patch{patch(9, "q")}
	if e := l.Append(first); e != api.OK || l.End() != 24 {
		t.Error(e, l.End())
	}
	if e := l.Append(second); e != api.OK || l.End() != 40 || !equal(l.Records(), [][]api.Patch{first, second}) {
		t.Error(e, l.End(), l.Records())
	}
	a, _ := plog.Encode(first)
	b, _ := plog.Encode(second)
	want := append(append(num.Put(nil, 40, 8), a...), b...)
	if got, _ := m.Load(64, len(want)); !slices.Equal(got, want) {
		t.Error(got)
	}
	if got, _ := m.Lasts(64, len(want)); !slices.Equal(got, want) {
		t.Error("not durable", got)
	}
	if got, _ := m.Load(0, 64); !slices.Equal(got, make([]byte, 64)) {
		t.Error("applied")
	}
}

// P8.3: a refused record changes nothing.
func TestAppendErrors(t *testing.T) {
	m := pmem.New(512)
	l := plog.New(m, 64, 128)
	l.Append([]api.Patch{patch(1, "x")})
	before, _ := m.Load(0, 512)
	for i, c := range []struct {
		p    []api.Patch
		want api.Errno
	}{
		{make([]api.Patch, 65), api.ErrArg}, {[]api.Patch{patch(-1, "")}, api.ErrArg}, {[]api.Patch{patch(0, strings.Repeat("x", 257))}, api.ErrArg},
		{[]api.Patch{patch(0, strings.Repeat("x", 93))}, api.ErrFull}, {[]api.Patch{patch(0, strings.Repeat("x", 256))}, api.ErrFull},
	} {
		if e := l.Append(c.p); e != c.want {
			t.Error(i, e)
		}
	}
	if after, _ := m.Load(0, 512); !slices.Equal(before, after) {
		t.Error("something changed")
	}
	if e := l.Append([]api.Patch{patch(0, strings.Repeat("x", 92))}); e != api.OK || l.End() != 120 || len(l.Records()) != 2 {
		t.Error("a record that just fits", e)
	}
	if e := l.Append(nil); e != api.ErrFull {
		t.Error("full", e)
	}
}

// P8.3: what follows is what is there as records, not what the end says.
func TestAppendBehindRecords(t *testing.T) {
	m := pmem.New(512)
	l := plog.New(m, 0, 256)
	one, two := []api.Patch{patch(400, "1")}, []api.Patch{patch(401, "2")}
	l.Append(one)
	m.Store(0, num.Put(nil, 100, 8))
	l.Append(two)
	if l.End() != 32 || !equal(l.Records(), [][]api.Patch{one, two}) {
		t.Error(l.End(), l.Records())
	}
}

// P8.4
func TestRecords(t *testing.T) {
	m := pmem.New(512)
	l := plog.New(m, 0, 256)
	one, two := []api.Patch{patch(400, "1")}, []api.Patch{patch(401, "2")}
	l.Append(one)
	l.Append(nil)
	l.Append(two)
	if !equal(l.Records(), [][]api.Patch{one, nil, two}) {
		t.Error(l.Records())
	}
	l.Records()[0][0].At = 9
	if !equal(l.Records(), [][]api.Patch{one, nil, two}) {
		t.Error("results are shared")
	}
	m.Store(0, num.Put(nil, 39, 8))
	if !equal(l.Records(), [][]api.Patch{one, nil}) {
		t.Error("beyond the end", l.Records())
	}
	m.Store(0, num.Put(nil, 40, 8))
	m.Store(8+24, []byte{9})
	if !equal(l.Records(), [][]api.Patch{one, nil}) {
		t.Error("a wrong sum", l.Records())
	}
	m.Store(8+15, []byte{1})
	if len(l.Records()) != 0 {
		t.Error("a wrong padding", l.Records())
	}
}

// P8.4
func TestClear(t *testing.T) {
	m := pmem.New(512)
	l := plog.New(m, 64, 128)
	l.Append([]api.Patch{patch(1, "x")})
	l.Clear()
	got, _ := m.Lasts(64, 8)
	if l.End() != 0 || len(l.Records()) != 0 || !slices.Equal(got, make([]byte, 8)) {
		t.Error(l.End(), l.Records(), got)
	}
	if got, _ := m.Load(0, 2); !slices.Equal(got, []byte{0, 0}) {
		t.Error("applied")
	}
}

// P8.4
func TestRedo(t *testing.T) {
	m := pmem.New(512)
	l := plog.New(m, 0, 256)
	l.Append([]api.Patch{patch(300, "abc"), patch(510, "xyz"), patch(1<<32-1, "far"), patch(510, "xy")})
	l.Append([]api.Patch{patch(301, "B"), patch(400, "")})
	if n := l.Redo(); n != 2 || l.End() != 0 || len(l.Records()) != 0 {
		t.Error(n, l.End())
	}
	for _, load := range []func(int, int) ([]byte, api.Errno){m.Load, m.Lasts} {
		a, _ := load(300, 3)
		b, _ := load(509, 3)
		if string(a) != "aBc" || string(b) != "\x00xy" {
			t.Errorf("%q %q", a, b)
		}
	}
	if len(m.Dirty()) != 0 || l.Redo() != 0 {
		t.Error("redone again, or not durable")
	}
}

// P8.4: the records are those from before the first patch, even if a patch hits the log.
func TestRedoOfPatchesOnTheLog(t *testing.T) {
	m := pmem.New(512)
	l := plog.New(m, 0, 256)
	l.Append([]api.Patch{patch(8, strings.Repeat("\xff", 64))})
	l.Append([]api.Patch{patch(300, "x")})
	if l.Redo() != 2 {
		t.Error("the number of records")
	}
	if b, _ := m.Load(300, 1); string(b) != "x" {
		t.Error(b)
	}
}

// crashes calls f for crashes in which each cell that is dirty persists or not.
func crashes(f func(picks []int)) {
	seed := uint32(3)
	for range 40 {
		picks := make([]int, 60)
		for i := range picks {
			seed = seed*1664525 + 1013904223
			picks[i] = int(seed >> 20)
		}
		f(picks)
	}
	f(nil)
}

// P8.5
func TestAppendSurvives(t *testing.T) {
	one, two := []api.Patch{patch(400, "one")}, []api.Patch{patch(404, "two and more bytes than a cell has")}
	crashes(func(picks []int) {
		m := pmem.New(512)
		l := plog.New(m, 0, 256)
		l.Append(one)
		m.Crash(picks)
		l.Append(two)
		m.Crash(picks)
		if !equal(plog.New(m, 0, 256).Records(), [][]api.Patch{one, two}) {
			t.Fatal(l.Records())
		}
	})
}

// P8.5: a crash in the middle of Append, played by its stores without its fences.
func TestAppendIsWhole(t *testing.T) {
	one, two := []api.Patch{patch(400, "one")}, []api.Patch{patch(404, "two and more bytes than a cell has")}
	b, _ := plog.Encode(two)
	crashes(func(picks []int) {
		m := pmem.New(512)
		l := plog.New(m, 0, 256)
		l.Append(one)
		m.Store(8+16, b)
		m.Crash(picks)
		if !equal(l.Records(), [][]api.Patch{one}) {
			t.Fatal("before the end", l.Records())
		}
		m.Store(8+16, b)
		m.Flush(8+16, len(b))
		m.Fence()
		m.Store(0, num.Put(nil, 16+len(b), 8))
		m.Crash(picks)
		if r := l.Records(); !equal(r, [][]api.Patch{one}) && !equal(r, [][]api.Patch{one, two}) {
			t.Fatal("with the end", r)
		}
	})
}

// P8.6: a crash in the middle of Redo, played by its stores without its fences.
func TestRedoTwice(t *testing.T) {
	p := []api.Patch{patch(300, "a text of several cells"), patch(310, "over"), patch(64, "here")}
	crashes(func(picks []int) {
		m := pmem.New(512)
		l := plog.New(m, 128, 128)
		l.Append(p)
		for _, x := range p[:len(picks)%4] {
			m.Store(x.At, []byte(x.Data))
		}
		m.Crash(picks)
		if plog.New(m, 128, 128).Redo() != 1 {
			t.Fatal("no record")
		}
		m.Crash(picks)
		a, _ := m.Load(300, 23)
		b, _ := m.Load(64, 4)
		if string(a) != "a text of overral cells" || string(b) != "here" {
			t.Fatalf("%q %q", a, b)
		}
	})
}

// R4
func TestArgumentsStay(t *testing.T) {
	all := []api.Patch{patch(1, "a"), patch(2, "b"), patch(3, "c")}
	b, _ := plog.Encode(all[:2])
	plog.New(pmem.New(512), 0, 128).Append(all[:2])
	if !slices.Equal(all, []api.Patch{patch(1, "a"), patch(2, "b"), patch(3, "c")}) {
		t.Error(all)
	}
	kept := slices.Clone(b)
	l, _, _ := plog.Decode(b)
	l[0].At = 5
	if !slices.Equal(b, kept) {
		t.Error("the argument was changed")
	}
}
