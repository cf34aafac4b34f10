package wire_test

import (
	"math"
	"reflect"
	"slices"
	"strings"
	"testing"

	"commons/api"
	"commons/crc"
	"commons/num"
	"commons/wire"
)

var sixteen = slices.Repeat([]string{"abcdefghijkl"}, 16)

// valid returns packets of all kinds, with the least and the greatest values.
func valid() []api.Packet {
	const w1, w2, w4, w8 = 255, 65535, 1<<32 - 1, math.MaxInt
	return []api.Packet{
		{Kind: api.VerbAsk, Client: 1, Op: api.Put},
		{Kind: api.VerbAsk, Client: 8, Epoch: w4, Seq: w8, Op: api.Swap, At: w4, N: w2, Data: strings.Repeat("\xff", 128), Old: w8, New: w8},
		{Kind: api.VerbAsk, Client: 3, Epoch: 2, Seq: 1, Op: api.Get, At: 6792, N: 64},
		{Kind: api.VerbTold, Client: 1, Op: api.Put},
		{Kind: api.VerbTold, Client: 8, Epoch: w4, Seq: w8, Op: api.Flush, Errno: w1, Data: strings.Repeat("\x00", 128), Old: w8},
		{Kind: api.RpcAsk, Client: 1},
		{Kind: api.RpcAsk, Client: 8, Epoch: w4, Seq: w8, Op: w1, Inode: w1, Call: api.Call{Path: strings.Repeat("p", 100), Path2: strings.Repeat("q", 100), Flags: w1, N: w4}},
		{Kind: api.RpcAsk, Client: 2, Epoch: 1, Seq: 5, Op: api.Rename, Call: api.Call{Path: "/a", Path2: "/b"}},
		{Kind: api.RpcTold, Client: 1},
		{Kind: api.RpcTold, Client: 8, Epoch: w4, Seq: w8, Op: w1, Errno: w1, Inode: w1, Wrote: w8, At: w4,
			Reply: api.Reply{Info: api.Info{Kind: w1, Links: w1, Size: w2}, Names: sixteen},
			Node:  api.Inode{Kind: w1, Links: w1, Size: w2, Blocks: [4]int{w1, w1, w1, w1}}},
		{Kind: api.RpcTold, Client: 2, Op: api.List, Reply: api.Reply{Names: []string{"", "b", "a", "\xff"}}},
		{Kind: api.RpcTold, Client: 2, Op: api.Grant, Inode: 3, Node: api.Inode{Kind: 1, Links: 2, Size: 70, Blocks: [4]int{4, 5}}},
		{Kind: api.Recall, Client: 1},
		{Kind: api.Recall, Client: 8, Epoch: w4, Seq: w8, Inode: w1},
	}
}

// same treats nil and empty names alike.
func same(p, q api.Packet) bool {
	l := slices.Equal(p.Reply.Names, q.Reply.Names)
	p.Reply.Names, q.Reply.Names = nil, nil
	return l && reflect.DeepEqual(p, q)
}

func summed(b ...byte) []byte {
	return num.Put(b, int(crc.Sum(b)), 4)
}

// P7.1: the bytes of each kind.
func TestPutBytes(t *testing.T) {
	head := func(kind, client byte) []byte {
		return []byte{kind, client, 2, 1, 0, 0, 3, 0, 0, 0, 0, 0, 0, 0}
	}
	for i, c := range []struct {
		p    api.Packet
		want []byte
	}{
		{api.Packet{Kind: api.VerbAsk, Client: 7, Epoch: 258, Seq: 3, Op: 4, At: 261, N: 770, Data: "xy", Old: 9, New: 10},
			append(head(1, 7), 4, 5, 1, 0, 0, 2, 3, 2, 0, 'x', 'y', 9, 0, 0, 0, 0, 0, 0, 0, 10, 0, 0, 0, 0, 0, 0, 0)},
		{api.Packet{Kind: api.VerbTold, Client: 7, Epoch: 258, Seq: 3, Op: 2, Errno: 35, Data: "z", Old: 9},
			append(head(2, 7), 2, 35, 1, 0, 'z', 9, 0, 0, 0, 0, 0, 0, 0)},
		{api.Packet{Kind: api.RpcAsk, Client: 7, Epoch: 258, Seq: 3, Op: 11, Inode: 6, Call: api.Call{Path: "/a", Path2: "/bc", Flags: 5, N: 259}},
			append(head(3, 7), 11, 6, 2, '/', 'a', 3, '/', 'b', 'c', 5, 3, 1, 0, 0)},
		{api.Packet{Kind: api.RpcTold, Client: 7, Epoch: 258, Seq: 3, Op: 12, Errno: 1, Inode: 2, Wrote: 3, At: 4,
			Reply: api.Reply{Info: api.Info{Kind: 5, Links: 6, Size: 263}, Names: []string{"n", "mm"}},
			Node:  api.Inode{Kind: 8, Links: 9, Size: 266, Blocks: [4]int{11, 12, 13, 14}}},
			append(head(4, 7), 12, 1, 2, 3, 0, 0, 0, 0, 0, 0, 0, 4, 0, 0, 0, 5, 6, 7, 1, 8, 9, 10, 1, 11, 12, 13, 14, 2, 1, 'n', 2, 'm', 'm')},
		{api.Packet{Kind: api.Recall, Client: 7, Epoch: 258, Seq: 3, Inode: 31}, append(head(5, 7), 31)},
	} {
		if b, e := wire.Put(c.p); e != api.OK || !slices.Equal(b, summed(c.want...)) {
			t.Error(i, e, b)
		}
	}
}

// P7.1: the example.
func TestPutExample(t *testing.T) {
	b, e := wire.Put(api.Packet{Kind: api.Recall, Client: 2, Epoch: 1, Inode: 3})
	if want := []byte{5, 2, 1, 0, 0, 0, 0, 0, 0, 0, 0, 0, 0, 0, 3}; e != api.OK || len(b) != 19 || !slices.Equal(b[:15], want) {
		t.Error(b, e)
	}
}

// P7.1: a packet is refused as soon as one field is beyond its bounds, or does not belong to its kind.
func TestPutRefuses(t *testing.T) {
	long := strings.Repeat("x", 101)
	changes := []struct {
		kinds  string // those to which the changed field is of no use, or for which its value is too great
		change func(p *api.Packet)
	}{
		{"12345", func(p *api.Packet) { p.Kind = 0 }},
		{"12345", func(p *api.Packet) { p.Kind = 6 }},
		{"12345", func(p *api.Packet) { p.Kind = -1 }},
		{"12345", func(p *api.Packet) { p.Kind = 257 }},
		{"12345", func(p *api.Packet) { p.Client = 0 }},
		{"12345", func(p *api.Packet) { p.Client = 9 }},
		{"12345", func(p *api.Packet) { p.Client = -1 }},
		{"12345", func(p *api.Packet) { p.Epoch = 1 << 32 }},
		{"12345", func(p *api.Packet) { p.Epoch = -1 }},
		{"12345", func(p *api.Packet) { p.Seq = -1 }},
		{"12", func(p *api.Packet) { p.Op = 0 }},
		{"125", func(p *api.Packet) { p.Op = 5 }},
		{"12345", func(p *api.Packet) { p.Op = 256 }},
		{"12345", func(p *api.Packet) { p.Op = -1 }},
		{"235", func(p *api.Packet) { p.At = 1 }},
		{"12345", func(p *api.Packet) { p.At = 1 << 32 }},
		{"12345", func(p *api.Packet) { p.At = -1 }},
		{"2345", func(p *api.Packet) { p.N = 1 }},
		{"12345", func(p *api.Packet) { p.N = 65536 }},
		{"345", func(p *api.Packet) { p.Data = "x" }},
		{"12345", func(p *api.Packet) { p.Data = strings.Repeat("x", 129) }},
		{"345", func(p *api.Packet) { p.Old = 1 }},
		{"12345", func(p *api.Packet) { p.Old = -1 }},
		{"2345", func(p *api.Packet) { p.New = 1 }},
		{"12345", func(p *api.Packet) { p.New = -1 }},
		{"12345", func(p *api.Packet) { p.Call.Kind = 1 }},
		{"1245", func(p *api.Packet) { p.Call.Path = "x" }},
		{"1245", func(p *api.Packet) { p.Call.Path2 = "x" }},
		{"12345", func(p *api.Packet) { p.Call.Path = long }},
		{"12345", func(p *api.Packet) { p.Call.Path2 = long }},
		{"1245", func(p *api.Packet) { p.Call.Flags = 1 }},
		{"12345", func(p *api.Packet) { p.Call.Flags = 256 }},
		{"12345", func(p *api.Packet) { p.Call.Fd = 1 }},
		{"12345", func(p *api.Packet) { p.Call.Off = 1 }},
		{"1245", func(p *api.Packet) { p.Call.N = 1 }},
		{"12345", func(p *api.Packet) { p.Call.N = 1 << 32 }},
		{"12345", func(p *api.Packet) { p.Call.Data = "x" }},
		{"12", func(p *api.Packet) { p.Inode = 1 }},
		{"12345", func(p *api.Packet) { p.Inode = 256 }},
		{"135", func(p *api.Packet) { p.Errno = 1 }},
		{"12345", func(p *api.Packet) { p.Errno = 256 }},
		{"12345", func(p *api.Packet) { p.Errno = -1 }},
		{"12345", func(p *api.Packet) { p.Reply.Errno = 1 }},
		{"12345", func(p *api.Packet) { p.Reply.Fd = 1 }},
		{"12345", func(p *api.Packet) { p.Reply.Data = "x" }},
		{"1235", func(p *api.Packet) { p.Reply.Names = []string{"a"} }},
		{"1235", func(p *api.Packet) { p.Reply.Names = []string{""} }},
		{"12345", func(p *api.Packet) { p.Reply.Names = append([]string{"x"}, sixteen...) }},
		{"12345", func(p *api.Packet) { p.Reply.Names = []string{"abcdefghijklm"} }},
		{"1235", func(p *api.Packet) { p.Reply.Info.Kind = 1 }},
		{"1235", func(p *api.Packet) { p.Reply.Info.Links = 1 }},
		{"1235", func(p *api.Packet) { p.Reply.Info.Size = 1 }},
		{"12345", func(p *api.Packet) { p.Reply.Info.Kind = 256 }},
		{"12345", func(p *api.Packet) { p.Reply.Info.Links = 256 }},
		{"12345", func(p *api.Packet) { p.Reply.Info.Size = 65536 }},
		{"1235", func(p *api.Packet) { p.Wrote = 1 }},
		{"12345", func(p *api.Packet) { p.Wrote = -1 }},
		{"1235", func(p *api.Packet) { p.Node.Kind = 1 }},
		{"1235", func(p *api.Packet) { p.Node.Blocks[3] = 1 }},
		{"12345", func(p *api.Packet) { p.Node.Kind = 256 }},
		{"12345", func(p *api.Packet) { p.Node.Links = 256 }},
		{"12345", func(p *api.Packet) { p.Node.Size = 65536 }},
		{"12345", func(p *api.Packet) { p.Node.Blocks[2] = 256 }},
		{"12345", func(p *api.Packet) { p.Node.Blocks[0] = -1 }},
		{"12345", func(p *api.Packet) { p.Node.Opens[0] = 1 }},
		{"12345", func(p *api.Packet) { p.Node.Opens[7] = 8 }},
	}
	for kind := 1; kind <= 5; kind++ {
		for i, c := range changes {
			p := api.Packet{Kind: kind, Client: 4}
			if kind <= 2 {
				p.Op = 1
			}
			c.change(&p)
			b, e := wire.Put(p)
			if bad := strings.Contains(c.kinds, string(rune('0'+kind))); bad && (e != api.ErrArg || len(b) > 0) || !bad && e != api.OK {
				t.Error("kind", kind, "change", i, e)
			}
		}
	}
}

// P7.2
func TestReadErrors(t *testing.T) {
	good, _ := wire.Put(valid()[6])
	for i, c := range []struct {
		b    []byte
		want api.Errno
	}{
		{nil, api.ErrShort}, {[]byte{0}, api.ErrShort}, {[]byte{0, 0, 0}, api.ErrShort},
		{[]byte{0, 0, 0, 0}, api.ErrBytes}, {[]byte{0, 0, 0, 1}, api.ErrSum}, {[]byte{5, 0, 0, 0, 0}, api.ErrSum},
		{good[:len(good)-1], api.ErrSum}, {append(slices.Clone(good), 0), api.ErrSum},
		{summed(5, 2, 1, 0, 0, 0, 0, 0, 0, 0, 0, 0, 0, 0, 3), api.OK},
		{summed(5, 2, 1, 0, 0, 0, 0, 0, 0, 0, 0, 0, 0, 0), api.ErrBytes},
		{summed(5, 2, 1, 0, 0, 0, 0, 0, 0, 0, 0, 0, 0, 0, 3, 0), api.ErrBytes},
		{summed(6, 2, 1, 0, 0, 0, 0, 0, 0, 0, 0, 0, 0, 0, 3), api.ErrBytes},
		{summed(0, 2, 1, 0, 0, 0, 0, 0, 0, 0, 0, 0, 0, 0, 3), api.ErrBytes},
		{summed(5, 0, 1, 0, 0, 0, 0, 0, 0, 0, 0, 0, 0, 0, 3), api.ErrBytes},
		{summed(5, 9, 1, 0, 0, 0, 0, 0, 0, 0, 0, 0, 0, 0, 3), api.ErrBytes},
		{summed(5, 2, 1, 0, 0, 0, 0, 0, 0, 0, 0, 0, 0, 128, 3), api.ErrBytes},
	} {
		if p, e := wire.Read(c.b); e != c.want || e != api.OK && !same(p, api.Packet{}) {
			t.Error(i, e, p)
		}
	}
}

// P7.2: bounds that bytes can go beyond.
func TestReadBounds(t *testing.T) {
	head := func(kind byte, rest ...byte) []byte {
		return summed(append([]byte{kind, 1, 0, 0, 0, 0, 0, 0, 0, 0, 0, 0, 0, 0}, rest...)...)
	}
	verb := func(op byte, length int) []byte {
		b := []byte{op, 0, 0, 0, 0, 0, 0, byte(length), byte(length >> 8)}
		return head(1, append(b, make([]byte, length+16)...)...)
	}
	ask := func(length int) []byte {
		return head(3, append(append([]byte{1, 1, byte(length)}, make([]byte, length)...), 0, 0, 0, 0, 0, 0)...)
	}
	told := func(names, length int) []byte {
		b := append(make([]byte, 27), byte(names))
		for range names {
			b = append(append(b, byte(length)), make([]byte, length)...)
		}
		return head(4, b...)
	}
	for i, c := range []struct {
		b    []byte
		want api.Errno
	}{
		{verb(1, 0), api.OK}, {verb(4, 128), api.OK}, {verb(1, 129), api.ErrBytes}, {verb(0, 0), api.ErrBytes}, {verb(5, 0), api.ErrBytes}, {verb(1, 65535), api.ErrBytes},
		{ask(100), api.OK}, {ask(101), api.ErrBytes},
		{told(0, 0), api.OK}, {told(16, 12), api.OK}, {told(17, 12), api.ErrBytes}, {told(1, 13), api.ErrBytes}, {told(255, 0), api.ErrBytes},
	} {
		if _, e := wire.Read(c.b); e != c.want {
			t.Error(i, e)
		}
	}
}

// P7.3
func TestThereAndBack(t *testing.T) {
	for i, p := range valid() {
		b, e := wire.Put(p)
		if e != api.OK {
			t.Error(i, e)
		}
		q, e := wire.Read(b)
		if e != api.OK || !same(p, q) {
			t.Error(i, e, q)
		}
		if c, e := wire.Put(q); e != api.OK || !slices.Equal(b, c) {
			t.Error(i, e, c)
		}
		for n := range len(b) {
			if _, e := wire.Read(b[:n]); e != api.ErrShort && e != api.ErrSum {
				t.Error(i, n, e)
			}
		}
	}
}

// P7.2 and P7.3: bytes with a right sum are either refused, or put as exactly the same.
func TestOneEncodingOnly(t *testing.T) {
	for i, p := range valid() {
		b, _ := wire.Put(p)
		b = b[:len(b)-4]
		for at := range b {
			for _, x := range []byte{1, 2, 7, 128, 255} {
				c := slices.Clone(b)
				c[at] ^= x
				whole := summed(c...)
				q, e := wire.Read(whole)
				if e == api.ErrBytes {
					continue
				}
				if d, f := wire.Put(q); e != api.OK || f != api.OK || !slices.Equal(whole, d) {
					t.Fatal(i, at, x, e, f)
				}
			}
		}
	}
}

// P7.4
func TestChangedByte(t *testing.T) {
	for i, p := range valid() {
		b, _ := wire.Put(p)
		for at := range b {
			for x := 1; x < 256; x += 6 {
				c := slices.Clone(b)
				c[at] ^= byte(x)
				if _, e := wire.Read(c); e != api.ErrSum {
					t.Fatal(i, at, x, e)
				}
			}
		}
	}
}

// R4
func TestArgumentsStay(t *testing.T) {
	all := []string{"a", "b", "c"}
	p := api.Packet{Kind: api.RpcTold, Client: 1, Reply: api.Reply{Names: all[:2]}}
	b, _ := wire.Put(p)
	kept := slices.Clone(b)
	q, _ := wire.Read(b)
	q.Reply.Names[0] = "x"
	if !slices.Equal(all, []string{"a", "b", "c"}) || !slices.Equal(b, kept) {
		t.Error(all, b)
	}
	b[0] = 9
	if again, _ := wire.Put(p); !slices.Equal(again, kept) {
		t.Error("results are not new")
	}
}
