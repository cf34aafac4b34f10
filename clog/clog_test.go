package clog_test

import (
	"math"
	"slices"
	"strings"
	"testing"

	"commons/api"
	"commons/clog"
	"commons/crc"
	"commons/num"
)

var big = strings.Repeat("0123456789abcdef", 4)

var valid = []api.Record{
	{Inode: 1}, {Inode: 32, Call: 1 << 40, Off: 192, Data: big}, {Inode: 2, Trunc: true, Off: 256}, {Inode: 3, Call: 1048577, Off: 5, Data: "xy"},
	{Inode: 2, Off: 256}, {Inode: 2, Trunc: true}, {Inode: 7, Off: 255, Data: "\xff"}, {Inode: 9, Call: 258, Data: "\x00\x00\x00"}, {Inode: 9, Data: "1234567"}, {Inode: 9, Data: "12345678"},
}

// whole returns bytes with their sum and padding.
func whole(b ...byte) []byte {
	b = num.Put(b, int(crc.Sum(b)), 4)
	return append(b, make([]byte, num.Up(len(b), 8)-len(b))...)
}

// P16.1
func TestEncode(t *testing.T) {
	for i, c := range []struct {
		r    api.Record
		want []byte
	}{
		{api.Record{Call: 258, Inode: 3, Off: 259 - 100, Data: "xy"}, whole(2, 1, 0, 0, 0, 0, 0, 0, 3, 0, 159, 0, 2, 'x', 'y')},
		{api.Record{Inode: 32, Trunc: true, Off: 256}, whole(0, 0, 0, 0, 0, 0, 0, 0, 32, 1, 0, 1, 0)},
		{api.Record{Inode: 1}, whole(0, 0, 0, 0, 0, 0, 0, 0, 1, 0, 0, 0, 0)},
	} {
		if b, e := clog.Encode(c.r); e != api.OK || !slices.Equal(b, c.want) {
			t.Error(i, e, b)
		}
	}
	for i, r := range []api.Record{
		{}, {Inode: 33}, {Inode: -1}, {Inode: 1, Call: -1}, {Inode: 1, Call: 1<<40 + 1}, {Inode: 1, Off: 257}, {Inode: 1, Off: -1}, {Inode: 1, Data: big + "x"}, {Inode: 1, Off: 256, Data: "x"},
		{Inode: 1, Trunc: true, Data: "x"}, {Inode: 1, Trunc: true, Off: 257}, {Inode: math.MaxInt, Call: math.MinInt},
	} {
		if b, e := clog.Encode(r); e != api.ErrArg || len(b) > 0 {
			t.Error(i, e)
		}
	}
}

// P16.1 and P16.4
func TestDecode(t *testing.T) {
	for i, r := range valid {
		b, e := clog.Encode(r)
		if e != api.OK || len(b)%8 != 0 {
			t.Fatal(i, e)
		}
		got, n, e := clog.Decode(append(slices.Clone(b), 1, 2, 3))
		if got != r || n != len(b) || e != api.OK {
			t.Error(i, got, n, e)
		}
		sumEnd := 17 + len(r.Data)
		for n := range len(b) {
			want := api.ErrBytes
			if n < sumEnd {
				want = api.ErrShort
			}
			if got, m, e := clog.Decode(b[:n]); e != want || m != 0 || got != (api.Record{}) {
				t.Error(i, n, e)
			}
		}
	}
}

// P16.1
func TestDecodeErrors(t *testing.T) {
	good, _ := clog.Encode(api.Record{Call: 7, Inode: 3, Off: 5, Data: "xy"})
	changed := func(at int) []byte {
		b := slices.Clone(good)
		b[at] ^= 4
		return b
	}
	head := func(inode, trunc byte, rest ...byte) []byte {
		return whole(append([]byte{7, 0, 0, 0, 0, 0, 0, 0, inode, trunc}, rest...)...)
	}
	long := head(3, 0, append([]byte{0, 0, 65}, make([]byte, 65)...)...)
	for i, c := range []struct {
		b    []byte
		want api.Errno
	}{
		{nil, api.ErrShort}, {good[:12], api.ErrShort}, {good[:18], api.ErrShort}, {good[:19], api.ErrBytes}, {good[:23], api.ErrBytes}, {good, api.OK},
		{changed(0), api.ErrSum}, {changed(8), api.ErrSum}, {changed(13), api.ErrSum}, {changed(16), api.ErrSum}, {changed(18), api.ErrSum}, {changed(12), api.ErrSum},
		{changed(19), api.ErrBytes}, {changed(23), api.ErrBytes}, {changed(18)[:19], api.ErrSum},
		{head(0, 0, 0, 0, 0), api.ErrBytes}, {head(33, 0, 0, 0, 0), api.ErrBytes}, {head(1, 2, 0, 0, 0), api.ErrBytes}, {head(1, 255, 0, 0, 0), api.ErrBytes}, {head(1, 1, 0, 0, 1, 'x'), api.ErrBytes},
		{head(1, 0, 1, 1, 0), api.ErrBytes}, {head(1, 0, 0, 1, 0), api.OK}, {head(1, 0, 0, 1, 1, 'x'), api.ErrBytes}, {long, api.ErrBytes},
		{whole(0, 0, 0, 0, 0, 0, 0, 128, 1, 0, 0, 0, 0), api.ErrBytes}, {whole(0, 0, 0, 0, 0, 2, 0, 0, 1, 0, 0, 0, 0), api.ErrBytes}, {whole(0, 0, 0, 0, 0, 1, 0, 0, 1, 0, 0, 0, 0), api.OK},
		{make([]byte, 24), api.ErrSum}, {make([]byte, 16), api.ErrShort},
	} {
		if r, n, e := clog.Decode(c.b); e != c.want || e != api.OK && (n != 0 || r != (api.Record{})) {
			t.Error(i, e, r, n)
		}
	}
}

// P16.2
func TestEndAndSplit(t *testing.T) {
	for _, c := range [][3]int{{0, 0, 0}, {1, 24, 4294967320}, {0, 1016, 1016}, {1 << 30, 1016, 1<<62 + 1016}, {5, 8, 5<<32 + 8}} {
		end, e := clog.End(c[0], c[1])
		p, n, ok := clog.Split(c[2])
		if end != c[2] || e != api.OK || p != c[0] || n != c[1] || !ok {
			t.Error(c, end, e, p, n, ok)
		}
	}
	for _, c := range [][2]int{{0, 4}, {0, 1024}, {0, 1017}, {0, -8}, {-1, 0}, {1<<30 + 1, 0}, {math.MaxInt, 0}, {0, math.MinInt}, {3, 12}} {
		if end, e := clog.End(c[0], c[1]); end != 0 || e != api.ErrArg {
			t.Error(c, end, e)
		}
	}
	for _, end := range []int{4, 1024, 1017, -8, -1, 1<<32 + 1, 1<<32 + 1024, (1<<30 + 1) << 32, 1<<62 + 1<<32, math.MaxInt, math.MinInt, 1<<32 - 8} {
		if p, n, ok := clog.Split(end); p != 0 || n != 0 || ok {
			t.Error(end, p, n)
		}
	}
}

// log returns a log of an epoch with some records, and their ends.
func log(epoch int, l ...api.Record) ([]byte, []int) {
	var b []byte
	var ends []int
	for _, r := range l {
		x, _ := clog.Encode(r)
		b = append(b, x...)
		ends = append(ends, len(b))
	}
	end, _ := clog.End(epoch, len(b))
	b = append(num.Put(nil, end, 8), b...)
	return append(b, make([]byte, 1024-len(b))...), ends
}

// P16.3 and P16.4
func TestScan(t *testing.T) {
	b, ends := log(5, valid...)
	for i := range len(valid) + 1 {
		head := 0
		if i > 0 {
			head = ends[i-1]
		}
		if l, e := clog.Scan(b, 5, head); !slices.Equal(l, valid[i:]) || !slices.Equal(e, ends[i:]) {
			t.Error(i, l, e)
		}
	}
	for _, c := range [][2]int{{4, 0}, {6, 0}, {0, 0}, {-1, 0}, {5, -1}, {5, -8}, {5, ends[len(ends)-1] + 1}, {5, math.MaxInt}, {5, math.MinInt}, {math.MaxInt, 0}, {5 + 1<<32, 0}} {
		if l, e := clog.Scan(b, c[0], c[1]); len(l) > 0 || len(e) > 0 {
			t.Error(c, l)
		}
	}
	if l, _ := clog.Scan(b, 5, 1); len(l) > 0 {
		t.Error("from the middle of a record", l)
	}
	for _, c := range [][]byte{nil, b[:1023], append(slices.Clone(b), 0), b[:8]} {
		if l, _ := clog.Scan(c, 5, 0); len(l) > 0 {
			t.Error("of", len(c), "bytes")
		}
	}
}

// P16.3
func TestScanStops(t *testing.T) {
	b, ends := log(5, valid[3], valid[7], valid[8])
	count := func(change func(b []byte)) int {
		c := slices.Clone(b)
		change(c)
		l, e := clog.Scan(c, 5, 0)
		if len(l) != len(e) || !slices.Equal(e, ends[:len(e)]) {
			t.Error(l, e)
		}
		return len(l)
	}
	setEnd := func(n int) func([]byte) { return func(b []byte) { copy(b, num.Put(nil, n, 8)) } }
	for i, c := range []struct {
		change func(b []byte)
		want   int
	}{
		{func([]byte) {}, 3}, {func(b []byte) { b[8+ends[0]+3]++ }, 1}, {func(b []byte) { b[8]++ }, 0}, {func(b []byte) { b[8+ends[1]-1]++ }, 1}, {func(b []byte) { b[1000]++ }, 3},
		{setEnd(5<<32 + ends[1]), 2}, {setEnd(5<<32 + ends[2] - 8), 2}, {setEnd(5<<32 + ends[2] + 8), 3}, {setEnd(5<<32 + 1016), 3}, {setEnd(5 << 32), 0},
		{setEnd(5<<32 + 1024), 0}, {setEnd(5<<32 + ends[0] + 1), 0}, {setEnd(6<<32 + ends[2]), 0}, {setEnd(ends[2]), 0}, {func(b []byte) { b[7] |= 128 }, 0},
	} {
		if n := count(c.change); n != c.want {
			t.Error(i, n)
		}
	}
}

// P16.3: a log that is full to its end.
func TestScanOfFullLog(t *testing.T) {
	var l []api.Record
	for i := range 11 {
		l = append(l, api.Record{Call: i, Inode: 2, Off: i, Data: big})
	}
	l = append(l, api.Record{Call: 12, Inode: 2, Data: big[:7]}, api.Record{Call: 13, Inode: 2, Data: big[:7]})
	b, ends := log(1, l...)
	if len(b) != 1024 || ends[len(ends)-1] != 1016 {
		t.Fatal(ends)
	}
	if got, e := clog.Scan(b, 1, 0); !slices.Equal(got, l) || !slices.Equal(e, ends) {
		t.Error(len(got), e)
	}
}

// P16.5
func TestOtherEpoch(t *testing.T) {
	for epoch := range 6 {
		b, _ := log(epoch, valid...)
		for other := -1; other < 8; other++ {
			if l, e := clog.Scan(b, other, 0); (len(l) > 0) != (other == epoch) || len(e) != len(l) {
				t.Error(epoch, other)
			}
		}
	}
	if l, _ := clog.Scan(make([]byte, 1024), 0, 0); len(l) > 0 {
		t.Error("of bytes 0")
	}
}

// R4
func TestArgumentsStay(t *testing.T) {
	b, _ := log(5, valid...)
	kept := slices.Clone(b)
	clog.Scan(b, 5, 0)
	clog.Decode(b[8:])
	if !slices.Equal(b, kept) {
		t.Error("changed")
	}
}
