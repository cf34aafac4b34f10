package slots_test

import (
	"math"
	"slices"
	"testing"

	"commons/api"
	"commons/crc"
	"commons/num"
	"commons/slots"
)

var valid = []api.Slot{
	{}, {Epoch: 1}, {Epoch: 1 << 30}, {Head: 1024}, {Head: 3}, {Rpc: 1 << 40}, {Wrote: 1 << 40}, {Kept: api.Answer{Errno: 255}}, {Kept: api.Answer{Inode: 32}},
	{Epoch: 1 << 30, Head: 1024, Rpc: 1 << 40, Kept: api.Answer{Errno: 255, Inode: 32}, Wrote: 1 << 40},
	{Epoch: 258, Head: 24, Rpc: 1048577, Kept: api.Answer{Errno: 18, Inode: 2}, Wrote: 1048579},
}

var invalid = []api.Slot{
	{Epoch: -1}, {Epoch: 1<<30 + 1}, {Head: -1}, {Head: 1025}, {Rpc: -1}, {Rpc: 1<<40 + 1}, {Wrote: -1}, {Wrote: 1<<40 + 1},
	{Kept: api.Answer{Errno: -1}}, {Kept: api.Answer{Errno: 256}}, {Kept: api.Answer{Inode: -1}}, {Kept: api.Answer{Inode: 33}},
	{Epoch: math.MaxInt}, {Rpc: math.MinInt}, {Wrote: math.MaxInt}, {Kept: api.Answer{Inode: math.MaxInt}},
}

func summed(b []byte) []byte {
	b = append(slices.Clone(b), make([]byte, 60-len(b))...)
	return num.Put(b, int(crc.Sum(b)), 4)
}

// P13.1
func TestPut(t *testing.T) {
	b, e := slots.Put(api.Slot{Epoch: 258, Head: 24, Rpc: 259, Kept: api.Answer{Errno: 18, Inode: 2}, Wrote: 260})
	want := summed([]byte{2, 1, 0, 0, 24, 0, 0, 0, 3, 1, 0, 0, 0, 0, 0, 0, 18, 2, 4, 1, 0, 0, 0, 0, 0, 0})
	if e != api.OK || !slices.Equal(b, want) {
		t.Error(b, e)
	}
	if b, e := slots.Put(api.Slot{}); e != api.OK || !slices.Equal(b, summed(nil)) {
		t.Error(b, e)
	}
	for i, s := range valid {
		if b, e := slots.Put(s); e != api.OK || len(b) != 64 {
			t.Error(i, e)
		}
	}
	for i, s := range invalid {
		if b, e := slots.Put(s); e != api.ErrArg || len(b) > 0 {
			t.Error(i, e)
		}
	}
}

// P13.1
func TestReadErrors(t *testing.T) {
	good, _ := slots.Put(valid[9])
	first := slices.Clone(good)
	first[0]++
	for i, c := range []struct {
		b    []byte
		want api.Errno
	}{
		{nil, api.ErrShort}, {good[:63], api.ErrShort}, {first, api.ErrSum}, {make([]byte, 64), api.ErrSum},
		{append(good[:63:63], good[63]+1), api.ErrSum}, {append(slices.Clone(good), 1), api.OK}, {good, api.OK},
		{summed([]byte{1, 0, 0, 64}), api.ErrBytes}, {summed([]byte{0, 0, 0, 64}), api.OK}, {summed([]byte{0, 0, 0, 0, 1, 4}), api.ErrBytes}, {summed([]byte{0, 0, 0, 0, 0, 4}), api.OK},
		{summed([]byte{0, 0, 0, 0, 0, 0, 0, 0, 1, 0, 0, 0, 0, 1}), api.ErrBytes}, {summed([]byte{0, 0, 0, 0, 0, 0, 0, 0, 0, 0, 0, 0, 0, 1}), api.OK},
		{summed([]byte{0, 0, 0, 0, 0, 0, 0, 0, 0, 0, 0, 0, 0, 0, 0, 128}), api.ErrBytes}, {summed(append(make([]byte, 17), 33)), api.ErrBytes}, {summed(append(make([]byte, 17), 32)), api.OK},
		{summed(append(make([]byte, 16), 255)), api.OK}, {summed(append(make([]byte, 18), 1, 0, 0, 0, 0, 1)), api.ErrBytes}, {summed(append(make([]byte, 25), 128)), api.ErrBytes},
		{summed(append(make([]byte, 26), 1)), api.ErrBytes}, {summed(append(make([]byte, 59), 1)), api.ErrBytes},
	} {
		if s, e := slots.Read(c.b); e != c.want || e != api.OK && s != (api.Slot{}) {
			t.Error(i, e, s)
		}
	}
}

// P13.2
func TestPutHead(t *testing.T) {
	if b, e := slots.PutHead(258); e != api.OK || !slices.Equal(b, summed([]byte{'C', 'M', 'N', '1', 0, 0, 0, 0, 2, 1})) {
		t.Error(b, e)
	}
	for _, n := range []int{0, 1, 1 << 60} {
		if b, e := slots.PutHead(n); e != api.OK || len(b) != 64 {
			t.Error(n, e)
		}
	}
	for _, n := range []int{-1, 1<<60 + 1, math.MaxInt, math.MinInt} {
		if b, e := slots.PutHead(n); e != api.ErrArg || len(b) > 0 {
			t.Error(n, e)
		}
	}
}

// P13.2
func TestReadHeadErrors(t *testing.T) {
	good, _ := slots.PutHead(77)
	slot, _ := slots.Put(valid[10])
	changed := slices.Clone(good)
	changed[30] = 1
	text := func(s string, rest ...byte) []byte { return summed(append([]byte(s), rest...)) }
	for i, c := range []struct {
		b    []byte
		want api.Errno
	}{
		{nil, api.ErrShort}, {good[:63], api.ErrShort}, {changed, api.ErrSum}, {make([]byte, 64), api.ErrSum}, {slot, api.ErrBytes}, {summed(nil), api.ErrBytes},
		{good, api.OK}, {append(slices.Clone(good), 5), api.OK}, {text("CMN1"), api.OK}, {text("CMN2"), api.ErrBytes}, {text("XMN1"), api.ErrBytes},
		{text("CMN1\x00\x00\x00\x01"), api.ErrBytes}, {text("CMN1\x00\x00\x00\x00", 0, 0, 0, 0, 0, 0, 0, 16), api.OK}, {text("CMN1\x00\x00\x00\x00", 1, 0, 0, 0, 0, 0, 0, 16), api.ErrBytes},
		{text("CMN1\x00\x00\x00\x00", 0, 0, 0, 0, 0, 0, 0, 128), api.ErrBytes}, {text("CMN1\x00\x00\x00\x00", 0, 0, 0, 0, 0, 0, 0, 0, 1), api.ErrBytes},
	} {
		if n, e := slots.ReadHead(c.b); e != c.want || e != api.OK && n != 0 {
			t.Error(i, e, n)
		}
	}
	if n, e := slots.ReadHead(good); n != 77 || e != api.OK {
		t.Error(n, e)
	}
}

// P13.3
func TestThereAndBack(t *testing.T) {
	for i, s := range valid {
		b, _ := slots.Put(s)
		kept := slices.Clone(b)
		if got, e := slots.Read(b); e != api.OK || got != s || !slices.Equal(b, kept) {
			t.Error(i, e, got)
		}
	}
	for _, n := range []int{0, 1, 255, 256, 1 << 40, 1 << 60} {
		b, _ := slots.PutHead(n)
		if got, e := slots.ReadHead(b); e != api.OK || got != n {
			t.Error(n, e, got)
		}
	}
}

// P13.3: bytes with a right sum are either refused, or put as exactly the same.
func TestOneEncodingOnly(t *testing.T) {
	slot, _ := slots.Put(valid[10])
	head, _ := slots.PutHead(99)
	for at := range 60 {
		for _, x := range []byte{1, 4, 32, 64, 128, 255} {
			c := slices.Clone(slot[:60])
			c[at] ^= x
			c = summed(c)
			if s, e := slots.Read(c); e != api.ErrBytes {
				if d, f := slots.Put(s); e != api.OK || f != api.OK || !slices.Equal(c, d) {
					t.Fatal(at, x, e, f)
				}
			}
			c = slices.Clone(head[:60])
			c[at] ^= x
			c = summed(c)
			if n, e := slots.ReadHead(c); e != api.ErrBytes {
				if d, f := slots.PutHead(n); e != api.OK || f != api.OK || !slices.Equal(c, d) {
					t.Fatal(at, x, e, f)
				}
			}
		}
	}
}
