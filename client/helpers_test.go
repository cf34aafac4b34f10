package client_test

import (
	"reflect"
	"slices"
	"testing"

	"commons/api"
	"commons/client"
	"commons/clog"
	"commons/layout"
	"commons/num"
	"commons/wire"
)

const life = 1 << 20 // the numbers of life 1 follow it

// bench is a client, for which the test plays the server.
type bench struct {
	*client.Client
	number int
	now    int
	epoch  int
	seq    int // the last number that was seen
	vseq   int // the last verb that was answered in this epoch
	log    int // bytes written to the log in this epoch
}

// started is a client in life 1, whose Hello was answered with epoch 3.
func started(t *testing.T, number int) *bench {
	t.Helper()
	b := &bench{Client: client.New(number), number: number}
	l, e := b.Start(1, 0)
	if e != api.OK {
		t.Fatal(e)
	}
	b.begin(t, b.question(t, l, api.Packet{Op: api.Hello}), 3)
	return b
}

// begin answers a Hello, a Resume or a Clean.
func (b *bench) begin(t *testing.T, q api.Packet, epoch int) []api.Packet {
	t.Helper()
	b.epoch, b.vseq, b.log = epoch, 0, 0
	return b.answer(t, q, api.Packet{At: epoch})
}

// one checks that one packet is sent, which is valid.
func one(t *testing.T, l []api.Packet) api.Packet {
	t.Helper()
	if len(l) != 1 {
		t.Fatalf("%d packets: %+v", len(l), l)
	}
	if _, e := wire.Put(l[0]); e != api.OK {
		t.Fatalf("not valid: %+v", l[0])
	}
	return l[0]
}

func none(t *testing.T, l []api.Packet) {
	t.Helper()
	if len(l) != 0 {
		t.Errorf("packets: %+v", l)
	}
}

func same(p, q api.Packet) bool {
	return reflect.DeepEqual(p, q)
}

// question checks that one question is sent, with a new number.
func (b *bench) question(t *testing.T, l []api.Packet, want api.Packet) api.Packet {
	t.Helper()
	p := one(t, l)
	if p.Seq <= b.seq {
		t.Error("numbers", p.Seq, b.seq)
	}
	b.seq = p.Seq
	return b.again(t, l, want, p.Seq)
}

// again checks that one question is sent, with some number.
func (b *bench) again(t *testing.T, l []api.Packet, want api.Packet, seq int) api.Packet {
	t.Helper()
	want.Kind, want.Client, want.Epoch, want.Seq = api.RpcAsk, b.number, b.epoch, seq
	if p := one(t, l); !same(p, want) {
		t.Fatalf("%+v\ninstead of\n%+v", p, want)
	}
	return want
}

// verb checks that one verb is sent, with its number.
func (b *bench) verb(t *testing.T, l []api.Packet, want api.Packet) api.Packet {
	t.Helper()
	want.Kind, want.Client, want.Epoch, want.Seq = api.VerbAsk, b.number, b.epoch, b.vseq+1
	if p := one(t, l); !same(p, want) {
		t.Fatalf("%+v\ninstead of\n%+v", p, want)
	}
	return want
}

// answer answers a packet, and returns what is sent next.
func (b *bench) answer(t *testing.T, q, a api.Packet) []api.Packet {
	t.Helper()
	a.Kind, a.Client, a.Epoch, a.Seq, a.Op = q.Kind+1, q.Client, q.Epoch, q.Seq, q.Op
	if q.Kind == api.VerbAsk {
		b.vseq++
	}
	return b.receive(t, a)
}

func (b *bench) receive(t *testing.T, p api.Packet) []api.Packet {
	t.Helper()
	data, e := wire.Put(p)
	if e != api.OK {
		t.Fatalf("not valid: %+v", p)
	}
	return b.Receive(data, b.now)
}

func (b *bench) recall(t *testing.T, inode int) []api.Packet {
	t.Helper()
	return b.receive(t, api.Packet{Kind: api.Recall, Client: b.number, Epoch: b.epoch, Inode: inode})
}

func (b *bench) ask(t *testing.T, c api.Call) []api.Packet {
	t.Helper()
	l, e := b.Ask(c, b.now)
	if e != api.OK {
		t.Fatal("ask", c, e)
	}
	return l
}

func (b *bench) told(t *testing.T, want api.Reply) {
	t.Helper()
	got, ok := b.Told()
	names := slices.Equal(got.Names, want.Names)
	got.Names, want.Names = nil, nil
	if !ok || !names || !reflect.DeepEqual(got, want) {
		t.Errorf("%v %+v instead of %+v", ok, got, want)
	}
	if b.Busy() {
		t.Error("busy")
	}
	b.silent(t)
}

// silent checks that the call is not answered.
func (b *bench) silent(t *testing.T) {
	t.Helper()
	if r, ok := b.Told(); ok || !reflect.DeepEqual(r, api.Reply{}) {
		t.Errorf("told %+v", r)
	}
}

// open opens a file that has some inode.
func (b *bench) open(t *testing.T, inode, fd int) {
	t.Helper()
	q := b.question(t, b.ask(t, api.Call{Kind: api.Open, Path: "/f", Flags: 1}), api.Packet{Op: api.Open, Call: api.Call{Path: "/f", Flags: 1}})
	none(t, b.answer(t, q, api.Packet{Inode: inode}))
	b.told(t, api.Reply{Fd: fd})
}

// granted answers a Grant that is expected, and returns what is sent next.
func (b *bench) granted(t *testing.T, l []api.Packet, inode, flags int, node api.Inode) []api.Packet {
	t.Helper()
	q := b.question(t, l, api.Packet{Op: api.Grant, Inode: inode, Call: api.Call{Flags: flags}})
	return b.answer(t, q, api.Packet{Inode: inode, Node: node})
}

// written answers the verbs of a record, and returns what is sent next.
func (b *bench) written(t *testing.T, l []api.Packet, r api.Record) []api.Packet {
	t.Helper()
	data, e := clog.Encode(r)
	if e != api.OK {
		t.Fatal(e)
	}
	p, _ := layout.Find(layout.Logs, b.number)
	at := p.At + 8 + b.log
	b.log += len(data)
	end, _ := clog.End(b.epoch, b.log)
	for _, v := range []api.Packet{
		{Op: api.Put, At: at, Data: string(data)}, {Op: api.Flush, At: at, N: len(data)},
		{Op: api.Put, At: p.At, Data: string(num.Put(nil, end, 8))}, {Op: api.Flush, At: p.At, N: 8},
	} {
		b.silent(t)
		l = b.answer(t, b.verb(t, l, v), api.Packet{})
	}
	return l
}

// write executes a Write under a lease that the client has.
func (b *bench) write(t *testing.T, fd, inode, off int, data string) {
	t.Helper()
	l := b.ask(t, api.Call{Kind: api.Write, Fd: fd, Off: off, Data: data})
	none(t, b.written(t, l, api.Record{Call: b.Id(), Inode: inode, Off: off, Data: data}))
	b.seq = max(b.seq, b.Id())
	b.told(t, api.Reply{})
}

// got answers the Gets of some blocks, and returns what is sent next.
func (b *bench) got(t *testing.T, l []api.Packet, blocks map[int]string, order ...int) []api.Packet {
	t.Helper()
	for _, n := range order {
		p, _ := layout.Find(layout.Data, n)
		b.silent(t)
		data := blocks[n] + string(make([]byte, 64-len(blocks[n])))
		l = b.answer(t, b.verb(t, l, api.Packet{Op: api.Get, At: p.At, N: 64}), api.Packet{Data: data})
	}
	return l
}

// gotNothing answers the Get of a file without blocks.
func (b *bench) gotNothing(t *testing.T, l []api.Packet) []api.Packet {
	t.Helper()
	p, _ := layout.Find(layout.Logs, b.number)
	return b.answer(t, b.verb(t, l, api.Packet{Op: api.Get, At: p.At, N: 8}), api.Packet{Data: "anything"})
}

func (b *bench) trusts(t *testing.T, want ...client.Trust) {
	t.Helper()
	if l := b.Trusts(b.now); !slices.Equal(l, want) {
		t.Errorf("%v instead of %v", l, want)
	}
}

func file(size int, blocks ...int) api.Inode {
	i := api.Inode{Kind: api.File, Links: 1, Size: size}
	copy(i.Blocks[:], blocks)
	return i
}
