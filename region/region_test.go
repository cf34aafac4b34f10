package region_test

import (
	"math"
	"reflect"
	"slices"
	"testing"

	"commons/api"
	"commons/layout"
	"commons/pmem"
	"commons/region"
)

func part(kind, number int) layout.Part {
	p, _ := layout.Find(kind, number)
	return p
}

// bench is a card whose client 1 is in epoch 3 and client 2 in epoch 1, with the next number of each.
type bench struct {
	*region.Card
	m    *pmem.Memory
	next map[int]int
}

func fresh() *bench {
	m := pmem.New(layout.Size())
	b := &bench{region.New(m), m, map[int]int{}}
	b.SetEpoch(1, 3)
	b.SetEpoch(2, 1)
	return b
}

// verb completes a verb with the client's epoch and its next number.
func (b *bench) verb(client int, p api.Packet) api.Packet {
	b.next[client]++
	p.Kind, p.Client, p.Epoch, p.Seq = api.VerbAsk, client, b.Epoch(client), b.next[client]
	return p
}

// told is the answer to a verb.
func told(p api.Packet, e api.Errno, data string, old int) api.Packet {
	return api.Packet{Kind: api.VerbTold, Client: p.Client, Epoch: p.Epoch, Seq: p.Seq, Op: p.Op, Errno: e, Data: data, Old: old}
}

// does executes a verb as the client's next one.
func (b *bench) does(t *testing.T, client int, p api.Packet, e api.Errno, data string, old int) {
	t.Helper()
	p = b.verb(client, p)
	got, ok := b.Do(p)
	if want := told(p, e, data, old); !ok || !reflect.DeepEqual(got, want) {
		t.Errorf("%v: %+v instead of %+v", ok, got, want)
	}
	if b.Fresh() != (e == api.OK) {
		t.Error("fresh", b.Fresh())
	}
}

func (b *bench) silent(t *testing.T, p api.Packet) {
	t.Helper()
	if got, ok := b.Do(p); ok || !reflect.DeepEqual(got, api.Packet{}) {
		t.Errorf("%+v", got)
	}
	if b.Fresh() {
		t.Error("fresh")
	}
}

func (b *bench) sees(t *testing.T, at int, want string) {
	t.Helper()
	if s, e := b.m.Load(at, len(want)); string(s) != want || e != api.OK {
		t.Errorf("%q instead of %q", s, want)
	}
}

func put(at int, data string) api.Packet { return api.Packet{Op: api.Put, At: at, Data: data} }
func get(at, n int) api.Packet           { return api.Packet{Op: api.Get, At: at, N: n} }
func flush(at, n int) api.Packet         { return api.Packet{Op: api.Flush, At: at, N: n} }
func swap(at, old, n int) api.Packet     { return api.Packet{Op: api.Swap, At: at, Old: old, New: n} }

// P20.1
func TestNew(t *testing.T) {
	for _, m := range []*pmem.Memory{nil, pmem.New(64), pmem.New(layout.Size() - 64), pmem.New(layout.Size() + 64)} {
		if region.New(m) != nil {
			t.Error("not a volume's size")
		}
	}
	c := region.New(pmem.New(layout.Size()))
	for k := range 9 {
		if c.Epoch(k) != 0 {
			t.Error(k)
		}
	}
	if c.Fresh() {
		t.Error("fresh")
	}
}

// P20.1
func TestEpochs(t *testing.T) {
	b := fresh()
	for _, k := range []int{0, 9, -1, math.MaxInt, math.MinInt} {
		b.SetEpoch(k, 7)
		if b.Epoch(k) != 0 {
			t.Error(k)
		}
	}
	b.SetEpoch(8, 5)
	if b.Epoch(1) != 3 || b.Epoch(2) != 1 || b.Epoch(3) != 0 || b.Epoch(8) != 5 {
		t.Error(b.Epoch(1), b.Epoch(2), b.Epoch(8))
	}
	b.does(t, 8, put(13952, "x"), api.OK, "", 0)
	b.does(t, 1, put(6784, "x"), api.OK, "", 0)
	b.does(t, 1, put(6785, "y"), api.OK, "", 0)
	b.does(t, 2, put(7808, "z"), api.OK, "", 0)
	b.SetEpoch(1, 4)
	b.silent(t, api.Packet{Kind: api.VerbAsk, Client: 1, Epoch: 4, Seq: 2, Op: api.Put, At: 6785, Data: "y"})
	b.silent(t, api.Packet{Kind: api.VerbAsk, Client: 1, Epoch: 4, Seq: 0, Op: api.Put, At: 6785, Data: "y"})
	b.next[1] = 0
	b.does(t, 1, put(6784, "w"), api.OK, "", 0)
	b.does(t, 2, put(7808, "v"), api.OK, "", 0)
}

// P20.2: Put.
func TestPut(t *testing.T) {
	b := fresh()
	log := part(layout.Logs, 2)
	b.does(t, 2, put(log.At, "ab"), api.OK, "", 0)
	b.does(t, 2, put(log.At+1022, "yz"), api.OK, "", 0)
	b.sees(t, log.At, "ab\x00")
	b.sees(t, log.At+1021, "\x00yz\x00")
	if len(b.m.Dirty()) == 0 {
		t.Error("a Put is not durable by itself")
	}
	for _, p := range []api.Packet{
		put(log.At, ""), put(log.At-1, "ab"), put(log.At+1023, "ab"), put(log.At+1024, "a"), put(6784, "a"), put(0, "a"), put(23104, "a"), put(1<<32-1, "a"), put(23168, "a"),
	} {
		b.does(t, 2, p, api.ErrKey, "", 0)
	}
	b.does(t, 1, put(7807, "ab"), api.ErrKey, "", 0)
	b.does(t, 1, put(7807, "a"), api.OK, "", 0)
}

// P20.2: Get.
func TestGet(t *testing.T) {
	b := fresh()
	log, block := part(layout.Logs, 1), part(layout.Data, 1)
	b.m.Store(log.At, []byte("log"))
	b.m.Store(block.At, []byte("block"))
	b.does(t, 1, get(log.At, 4), api.OK, "log\x00", 0)
	b.does(t, 1, get(block.At+1, 3), api.OK, "loc", 0)
	b.does(t, 2, get(block.At, 5), api.OK, "block", 0)
	for _, c := range [][2]int{{block.At, 64}, {block.At + 63, 1}, {23104, 64}, {23167, 1}, {log.At + 960, 64}, {log.At + 30, 64}} {
		want, _ := b.m.Load(c[0], c[1])
		b.does(t, 1, get(c[0], c[1]), api.OK, string(want), 0)
	}
	for _, c := range [][2]int{
		{block.At, 0}, {block.At, 65}, {log.At, 65}, {block.At + 1, 64}, {14977, 64}, {block.At + 63, 2}, {block.At - 1, 2}, {block.At - 1, 1}, {log.At + 1023, 2}, {log.At - 1, 1}, {7808, 8},
		{0, 8}, {64, 8}, {576, 8}, {640, 8}, {2688, 8}, {23168, 1}, {23167, 2}, {1<<32 - 1, 1}, {log.At, 65535},
	} {
		b.does(t, 1, get(c[0], c[1]), api.ErrKey, "", 0)
	}
}

// P20.2: Flush.
func TestFlush(t *testing.T) {
	b := fresh()
	log := part(layout.Logs, 1)
	b.does(t, 1, put(log.At, "first"), api.OK, "", 0)
	b.does(t, 1, put(log.At+100, "second"), api.OK, "", 0)
	b.does(t, 1, flush(log.At, 1), api.OK, "", 0)
	if l := b.m.Dirty(); !slices.Equal(l, []int{(log.At + 100) / 8, (log.At + 104) / 8}) {
		t.Error(l)
	}
	for _, c := range [][2]int{{log.At, 0}, {log.At, 1025}, {log.At - 1, 2}, {log.At + 1024, 1}, {14976, 64}, {0, 1}, {1<<32 - 1, 65535}, {7808, 1}} {
		b.does(t, 1, flush(c[0], c[1]), api.ErrKey, "", 0)
	}
	b.does(t, 1, flush(log.At, 1024), api.OK, "", 0)
	if len(b.m.Dirty()) != 0 {
		t.Error(b.m.Dirty())
	}
	b.m.Crash(nil)
	b.sees(t, log.At+100, "second")
}

// P20.2: Swap.
func TestSwap(t *testing.T) {
	b := fresh()
	b.does(t, 1, swap(6792, 0, 5), api.OK, "", 0)
	b.sees(t, 6792, "\x05\x00\x00\x00\x00\x00\x00\x00")
	b.does(t, 1, swap(6792, 5, 258), api.OK, "", 5)
	b.does(t, 1, swap(6792, 5, 9), api.OK, "", 258)
	b.sees(t, 6792, "\x02\x01\x00\x00\x00\x00\x00\x00")
	b.does(t, 1, swap(6792, 258, math.MaxInt), api.OK, "", 258)
	b.does(t, 1, swap(6792, math.MaxInt, 1), api.OK, "", math.MaxInt)
	b.m.Store(6792, []byte{1, 0, 0, 0, 0, 0, 0, 128})
	b.does(t, 1, swap(6792, 1, 3), api.OK, "", 0)
	b.sees(t, 6792, "\x01\x00\x00\x00\x00\x00\x00\x80")
	b.does(t, 1, swap(6792, 0, 3), api.OK, "", 0)
	b.sees(t, 6792, "\x03\x00\x00\x00\x00\x00\x00\x00")
	for _, at := range []int{6793, 6796, 6776, 7808, 0, 14976, 1<<32 - 8} {
		b.does(t, 1, swap(at, 0, 1), api.ErrKey, "", 0)
	}
	b.does(t, 1, swap(7800, 0, 1), api.OK, "", 0)
}

// P20.2: what is not a verb.
func TestNoVerb(t *testing.T) {
	b := fresh()
	b.does(t, 1, put(6784, "x"), api.OK, "", 0)
	for _, p := range []api.Packet{
		{}, {Kind: api.RpcAsk, Client: 1, Epoch: 3, Seq: 2, Op: 1}, {Kind: api.VerbTold, Client: 1, Epoch: 3, Seq: 2, Op: 1}, {Kind: api.Recall, Client: 1, Epoch: 3},
		{Kind: api.VerbAsk, Client: 0, Op: 1, Seq: 1}, {Kind: api.VerbAsk, Client: 9, Op: 1, Seq: 1}, {Kind: api.VerbAsk, Client: 1, Epoch: 3, Seq: 2, Op: 5}, {Kind: api.VerbAsk, Client: 1, Epoch: 3, Seq: 2},
		{Kind: api.VerbAsk, Client: 1, Epoch: 3, Seq: 2, Op: 1, At: -1, Data: "x"}, {Kind: api.VerbAsk, Client: 1, Epoch: 3, Seq: 2, Op: 1, At: 6784, Data: "x", Inode: 1}, {Kind: api.VerbAsk, Client: 1, Epoch: -1, Seq: 2, Op: 1},
	} {
		b.silent(t, p)
	}
	b.does(t, 1, put(6785, "y"), api.OK, "", 0)
}

// P20.2: the numbers of verbs.
func TestNumbers(t *testing.T) {
	b := fresh()
	b.silent(t, api.Packet{Kind: api.VerbAsk, Client: 1, Epoch: 3, Seq: 0, Op: api.Put, At: 6784, Data: "x"})
	b.silent(t, api.Packet{Kind: api.VerbAsk, Client: 1, Epoch: 3, Seq: 2, Op: api.Put, At: 6784, Data: "x"})
	b.does(t, 1, put(6784, "abc"), api.OK, "", 0)
	second := b.verb(1, get(6784, 3))
	first, ok := b.Do(second)
	if !ok || first.Data != "abc" || !b.Fresh() {
		t.Error(first)
	}
	b.m.Store(6784, []byte("XYZ"))
	other := second
	other.Op, other.At, other.N, other.Data = api.Put, 6784, 0, "bad"
	for _, p := range []api.Packet{second, other} {
		if again, ok := b.Do(p); !ok || !reflect.DeepEqual(again, first) || b.Fresh() {
			t.Error("again", again, ok, b.Fresh())
		}
	}
	b.sees(t, 6784, "XYZ")
	for _, seq := range []int{0, 1, 4, 5, math.MaxInt} {
		b.silent(t, api.Packet{Kind: api.VerbAsk, Client: 1, Epoch: 3, Seq: seq, Op: api.Put, At: 6784, Data: "bad"})
	}
	b.does(t, 1, put(0, "x"), api.ErrKey, "", 0)
	if again, ok := b.Do(api.Packet{Kind: api.VerbAsk, Client: 1, Epoch: 3, Seq: 3, Op: api.Put, At: 6784, Data: "x"}); !ok || again.Errno != api.ErrKey || b.Fresh() {
		t.Error(again)
	}
	b.sees(t, 6784, "XYZ")
	b.does(t, 1, put(6784, "end"), api.OK, "", 0)
}

// P20.2 and P20.4
func TestOtherEpoch(t *testing.T) {
	b := fresh()
	b.does(t, 1, put(6784, "abc"), api.OK, "", 0)
	before, _ := b.m.Load(0, b.m.Size())
	for _, epoch := range []int{0, 1, 2, 4, 1<<32 - 1} {
		for seq := range 4 {
			for _, p := range []api.Packet{put(6784, "bad"), swap(6784, 0, 7), flush(6784, 8), get(6784, 3), put(0, "")} {
				p.Kind, p.Client, p.Epoch, p.Seq = api.VerbAsk, 1, epoch, seq
				if got, ok := b.Do(p); !ok || !reflect.DeepEqual(got, told(p, api.ErrEpoch, "", 0)) || b.Fresh() {
					t.Error(epoch, seq, got)
				}
			}
		}
	}
	if after, _ := b.m.Load(0, b.m.Size()); !slices.Equal(before, after) {
		t.Error("something changed")
	}
	b.does(t, 1, put(6784, "xyz"), api.OK, "", 0)
}

// P20.5 and P20.6
func TestOnceAndOwnPartOnly(t *testing.T) {
	b := fresh()
	seed := uint32(1)
	next := func(n int) int {
		seed = seed*1664525 + 1013904223
		return int(seed>>8) % n
	}
	for i := range 3000 {
		client := 1 + next(3)
		at := part(layout.Logs, client).At - 20 + next(1070)
		if next(5) == 0 {
			at = next(24000)
		}
		p := []api.Packet{put(at, "0123456789"[:next(11)]), get(at, next(70)), flush(at, next(70)), swap(at/8*8, 0, next(9))}[next(4)]
		p = b.verb(client, p)
		before, _ := b.m.Load(0, b.m.Size())
		first, ok := b.Do(p)
		after, _ := b.m.Load(0, b.m.Size())
		own := part(layout.Logs, client)
		if !slices.Equal(before[:own.At], after[:own.At]) || !slices.Equal(before[own.At+own.Size:], after[own.At+own.Size:]) {
			t.Fatal(i, p)
		}
		if next(2) == 0 {
			b.m.Store(own.At+next(1000), []byte("between"))
		}
		before, _ = b.m.Load(0, b.m.Size())
		again, still := b.Do(p)
		after, _ = b.m.Load(0, b.m.Size())
		if !ok || !still || !reflect.DeepEqual(first, again) || !slices.Equal(before, after) {
			t.Fatal(i, p)
		}
	}
}

// P20.2: the example of the chapter.
func TestExample(t *testing.T) {
	b := fresh()
	p := api.Packet{Kind: api.VerbAsk, Client: 2, Epoch: 1, Seq: 1, Op: api.Put, At: 7808, Data: "x"}
	for range 2 {
		if got, ok := b.Do(p); !ok || got.Errno != api.OK {
			t.Error(got)
		}
	}
	p.Epoch = 0
	if got, ok := b.Do(p); !ok || got.Errno != api.ErrEpoch {
		t.Error(got)
	}
	p.Epoch, p.Seq, p.At = 1, 2, 6784
	if got, ok := b.Do(p); !ok || got.Errno != api.ErrKey {
		t.Error(got)
	}
}
