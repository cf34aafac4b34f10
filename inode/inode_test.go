package inode_test

import (
	"math"
	"slices"
	"testing"

	"commons/api"
	"commons/crc"
	"commons/inode"
	"commons/num"
)

func file(links, size int, blocks ...int) api.Inode {
	i := api.Inode{Kind: api.File, Links: links, Size: size}
	copy(i.Blocks[:], blocks)
	return i
}

func dir(size int, blocks ...int) api.Inode {
	i := api.Inode{Kind: api.Dir, Links: 1, Size: size}
	copy(i.Blocks[:], blocks)
	return i
}

func opens(i api.Inode, l ...int) api.Inode {
	copy(i.Opens[:], l)
	return i
}

// block replaces one block of an inode.
func block(i api.Inode, k, n int) api.Inode {
	i.Blocks[k] = n
	return i
}

var valid = []api.Inode{
	{},
	file(0, 0), file(1, 0), file(20, 0), file(1, 1, 128), file(1, 64, 1), file(1, 65, 3, 4), file(1, 128, 3, 4), file(1, 129, 3, 4, 5),
	file(1, 192, 9, 7, 8), file(1, 193, 9, 7, 8, 1), file(20, 256, 125, 126, 127, 128),
	opens(file(0, 0), 1), opens(file(1, 0), 8, 8, 8, 8, 8, 8, 8, 8), opens(file(1, 1, 2), 0, 0, 0, 0, 0, 0, 0, 1),
	dir(0), dir(16), dir(1, 0, 0, 0, 128), dir(4, 1, 2, 3, 4), dir(0, 5), dir(16, 0, 7), dir(3, 0, 7, 0, 8),
}

var invalid = []api.Inode{
	{Links: 1}, {Size: 1}, block(api.Inode{}, 2, 1), opens(api.Inode{}, 0, 1), {Kind: 3, Links: 1}, {Kind: -1}, {Kind: 257, Links: 1},
	{Kind: math.MaxInt}, file(-1, 0), file(21, 0), file(256, 0), file(1, -1), file(1, 257, 1, 2, 3, 4), file(1, math.MaxInt, 1, 2, 3, 4),
	file(1, 0, 1), file(1, 1), file(1, 64, 1, 2), file(1, 65, 1), file(1, 65, 1, 0, 2), file(1, 65, 1, 1), file(1, 256, 1, 2, 3, 1), file(1, 256, 1, 2, 3), file(1, 1, 129), file(1, 1, -1),
	file(1, 1, math.MaxInt), file(1, 1, math.MinInt), file(1, 65, 1, 129),
	opens(file(1, 0), 9), opens(file(1, 0), 0, -1), opens(file(1, 0), 0, 0, 0, 0, 0, 0, 0, 9), opens(file(1, 0), math.MinInt),
	{Kind: api.Dir}, {Kind: api.Dir, Links: 2}, {Kind: api.Dir, Links: -1}, dir(-1), dir(17), dir(1, 129), dir(1, -1), dir(2, 5, 5), dir(2, 5, 0, 6, 5), opens(dir(0), 1), opens(dir(0), 0, 0, 0, 0, 0, 0, 0, 1),
}

// P11.1
func TestMay(t *testing.T) {
	for i, x := range valid {
		if !inode.May(x) {
			t.Error("valid", i, x)
		}
	}
	for i, x := range invalid {
		if inode.May(x) {
			t.Error("not valid", i, x)
		}
	}
}

func summed(b []byte) []byte {
	b = append(slices.Clone(b), make([]byte, 60-len(b))...)
	return num.Put(b, int(crc.Sum(b)), 4)
}

// P11.1
func TestPut(t *testing.T) {
	for i, c := range []struct {
		x    api.Inode
		want []byte
	}{
		{api.Inode{}, make([]byte, 64)},
		{file(1, 65, 3, 4), summed([]byte{1, 1, 65, 0, 3, 4})},
		{opens(file(20, 256, 1, 2, 3, 128), 1, 2, 3, 4, 5, 6, 7, 8), summed([]byte{1, 20, 0, 1, 1, 2, 3, 128, 1, 2, 3, 4, 5, 6, 7, 8})},
		{dir(16, 0, 9), summed([]byte{2, 1, 16, 0, 0, 9})},
	} {
		if b, e := inode.Put(c.x); e != api.OK || !slices.Equal(b, c.want) {
			t.Error(i, e, b)
		}
	}
	for i, x := range invalid {
		if b, e := inode.Put(x); e != api.ErrArg || len(b) > 0 {
			t.Error(i, e)
		}
	}
}

// P11.1
func TestReadErrors(t *testing.T) {
	good, _ := inode.Put(file(1, 65, 3, 4))
	changed := slices.Clone(good)
	changed[50] = 1
	almost := make([]byte, 64)
	almost[63] = 1
	for i, c := range []struct {
		b    []byte
		want api.Errno
	}{
		{nil, api.ErrShort}, {good[:63], api.ErrShort}, {make([]byte, 63), api.ErrShort},
		{changed, api.ErrSum}, {almost, api.ErrSum}, {append(good[:60:60], 0, 0, 0, 0), api.ErrSum},
		{good, api.OK}, {append(slices.Clone(good), 7), api.OK}, {make([]byte, 70), api.OK},
		{summed(nil), api.ErrBytes}, {summed([]byte{3, 1}), api.ErrBytes}, {summed([]byte{1, 21}), api.ErrBytes}, {summed([]byte{1, 1, 65, 0, 3, 3}), api.ErrBytes},
		{summed([]byte{1, 1, 0, 0, 3}), api.ErrBytes}, {summed([]byte{2, 1, 17}), api.ErrBytes}, {summed([]byte{2, 0}), api.ErrBytes}, {summed([]byte{1, 1, 0, 0, 0, 0, 0, 0, 9}), api.ErrBytes},
		{summed([]byte{1, 1, 0, 0, 0, 0, 0, 0, 0, 0, 0, 0, 0, 0, 0, 0, 1}), api.ErrBytes}, {summed(append([]byte{1, 1}, append(make([]byte, 57), 1)...)), api.ErrBytes},
		{summed([]byte{1, 1, 1, 0, 129}), api.ErrBytes}, {summed([]byte{1, 1, 1, 0, 255}), api.ErrBytes}, {summed([]byte{0, 1}), api.ErrBytes},
	} {
		if x, e := inode.Read(c.b); e != c.want || e != api.OK && x != (api.Inode{}) {
			t.Error(i, e, x)
		}
	}
}

// P11.2
func TestNeeds(t *testing.T) {
	for _, c := range [][2]int{{0, 0}, {-1, 0}, {math.MinInt, 0}, {1, 1}, {63, 1}, {64, 1}, {65, 2}, {128, 2}, {129, 3}, {256, 4}, {257, 5}, {math.MaxInt, 1 << 57}} {
		if got := inode.Needs(c[0]); got != c[1] {
			t.Error(c, got)
		}
	}
}

// P11.2
func TestOpen(t *testing.T) {
	for i, want := range map[api.Inode]int{{}: 0, file(1, 0): 0, opens(file(1, 0), 1): 1, opens(file(0, 0), 1, 2, 3, 4, 5, 6, 7, 8): 36, opens(file(0, 0), 0, 0, 0, 0, 0, 0, 0, 2): 2} {
		if got := inode.Open(i); got != want {
			t.Error(i, got)
		}
	}
}

// P11.3
func TestThereAndBack(t *testing.T) {
	for i, x := range valid {
		b, e := inode.Put(x)
		if e != api.OK || len(b) != 64 {
			t.Error(i, e, len(b))
		}
		kept := slices.Clone(b)
		y, e := inode.Read(b)
		if e != api.OK || y != x || !slices.Equal(b, kept) {
			t.Error(i, e, y)
		}
	}
}

// P11.3: bytes with a right sum are either refused, or put as exactly the same.
func TestOneEncodingOnly(t *testing.T) {
	for i, x := range valid[1:] {
		b, _ := inode.Put(x)
		for at := range 60 {
			for _, v := range []byte{1, 2, 3, 8, 9, 65, 128, 129, 255} {
				c := slices.Clone(b[:60])
				c[at] = v
				c = summed(c)
				y, e := inode.Read(c)
				if e == api.ErrBytes {
					continue
				}
				if d, f := inode.Put(y); e != api.OK || f != api.OK || !slices.Equal(c, d) {
					t.Fatal(i, at, v, e, f)
				}
			}
		}
	}
}

// P11.1: one changed byte is seen.
func TestChangedByte(t *testing.T) {
	b, _ := inode.Put(opens(file(2, 70, 5, 6), 1, 0, 3))
	for at := range b {
		c := slices.Clone(b)
		c[at] ^= 0x10
		if _, e := inode.Read(c); e != api.ErrSum {
			t.Error(at, e)
		}
	}
}
