package server_test

import (
	"reflect"
	"slices"
	"testing"

	"commons/api"
	"commons/clog"
	"commons/layout"
	"commons/num"
	"commons/pmem"
	"commons/server"
	"commons/volume"
	"commons/wire"
)

// bench is a server with its memory and its clock; it plays the clients.
type bench struct {
	*server.Server
	m    *pmem.Memory
	now  int
	seqs [9]int // of questions
	vseq [9]int // of verbs
	logs [9]int // bytes written to the clients' logs
}

func fresh(t *testing.T) *bench {
	t.Helper()
	m := pmem.New(layout.Size())
	if e := volume.Format(m); e != api.OK {
		t.Fatal(e)
	}
	b := &bench{m: m}
	b.start(t)
	return b
}

// start starts the server again, by the memory as it is.
func (b *bench) start(t *testing.T) {
	t.Helper()
	s, e := server.New(b.m, b.now)
	if e != api.OK {
		t.Fatal("start", e)
	}
	b.Server = s
	b.vseq, b.logs = [9]int{}, [9]int{}
}

// loud lets so much time pass that grants are given.
func (b *bench) loud() *bench {
	b.now += api.Lease
	return b
}

func (b *bench) send(t *testing.T, p api.Packet) []api.Packet {
	t.Helper()
	data, e := wire.Put(p)
	if e != api.OK {
		t.Fatal("not a packet", p)
	}
	l := b.Receive(data, b.now)
	for _, q := range l {
		if _, e := wire.Put(q); e != api.OK {
			t.Fatal("not a packet", q)
		}
	}
	return l
}

// question completes a question with the client's next number and its epoch.
func (b *bench) question(client int, p api.Packet) api.Packet {
	b.seqs[client]++
	p.Kind, p.Client, p.Seq, p.Epoch = api.RpcAsk, client, b.seqs[client], b.Epoch(client)
	return p
}

// told is the answer to a question.
func told(q api.Packet, change func(a *api.Packet)) api.Packet {
	a := api.Packet{Kind: api.RpcTold, Client: q.Client, Epoch: q.Epoch, Seq: q.Seq, Op: q.Op}
	if change != nil {
		change(&a)
	}
	return a
}

func failed(e api.Errno) func(*api.Packet) { return func(a *api.Packet) { a.Errno = e } }

func same(p, q api.Packet) bool {
	names := slices.Equal(p.Reply.Names, q.Reply.Names)
	p.Reply.Names, q.Reply.Names = nil, nil
	return names && reflect.DeepEqual(p, q)
}

// gets sends a packet and checks all packets that are sent for it.
func (b *bench) gets(t *testing.T, p api.Packet, want ...api.Packet) {
	t.Helper()
	if got := b.send(t, p); !slices.EqualFunc(got, want, same) {
		t.Errorf("%+v\ninstead of\n%+v", got, want)
	}
}

// asks asks a question as the client's next one.
func (b *bench) asks(t *testing.T, client int, p api.Packet, change func(a *api.Packet)) api.Packet {
	t.Helper()
	q := b.question(client, p)
	b.gets(t, q, told(q, change))
	return q
}

// ok asks a question whose answer has no error, and returns the answer.
func (b *bench) ok(t *testing.T, client int, p api.Packet) api.Packet {
	t.Helper()
	l := b.send(t, b.question(client, p))
	if len(l) != 1 || l[0].Errno != api.OK {
		t.Fatalf("%+v: %+v", p, l)
	}
	return l[0]
}

func (b *bench) hello(t *testing.T, clients ...int) {
	t.Helper()
	for _, c := range clients {
		b.ok(t, c, api.Packet{Op: api.Hello})
		b.vseq[c], b.logs[c] = 0, 0
	}
}

// open opens a file, and returns its inode.
func (b *bench) open(t *testing.T, client int, path string) int {
	t.Helper()
	return b.ok(t, client, path1(api.Open, path, 1)).Inode
}

// verbs executes a verb as the client's next one.
func (b *bench) verb(t *testing.T, client int, p api.Packet) api.Packet {
	t.Helper()
	b.vseq[client]++
	p.Kind, p.Client, p.Seq, p.Epoch = api.VerbAsk, client, b.vseq[client], b.Epoch(client)
	l := b.send(t, p)
	if len(l) != 1 || l[0].Errno != api.OK {
		t.Fatalf("%+v: %+v", p, l)
	}
	return l[0]
}

// write writes a record to a client's log; the last Flush may be left out.
func (b *bench) write(t *testing.T, client int, r api.Record, flush bool) {
	t.Helper()
	data, e := clog.Encode(r)
	if e != api.OK {
		t.Fatal(e)
	}
	p, _ := layout.Find(layout.Logs, client)
	at := p.At + 8 + b.logs[client]
	b.logs[client] += len(data)
	end, _ := clog.End(b.Epoch(client), b.logs[client])
	b.verb(t, client, api.Packet{Op: api.Put, At: at, Data: string(data)})
	b.verb(t, client, api.Packet{Op: api.Flush, At: at, N: len(data)})
	b.verb(t, client, api.Packet{Op: api.Put, At: p.At, Data: string(num.Put(nil, end, 8))})
	if flush {
		b.verb(t, client, api.Packet{Op: api.Flush, At: p.At, N: 8})
	}
}

func (b *bench) marked(t *testing.T, want ...server.Mark) {
	t.Helper()
	if got := b.Marks(); !slices.Equal(got, want) {
		t.Errorf("%+v instead of %+v", got, want)
	}
}

func (b *bench) bytes(t *testing.T, inode int, want string) {
	t.Helper()
	if s, e := b.Volume().Files().Bytes(inode); s != want || e != api.OK {
		t.Errorf("%q %d instead of %q", s, e, want)
	}
}

// slot changes a client's slot behind the server's back.
func (b *bench) slot(t *testing.T, client int, change func(s *api.Slot)) {
	t.Helper()
	s, _ := b.Volume().Slot(client)
	change(&s)
	if b.Volume().SetSlot(client, s) != api.OK || b.Volume().Commit() != api.OK {
		t.Fatal("slot")
	}
}

func path1(op int, path string, flags int) api.Packet {
	return api.Packet{Op: op, Call: api.Call{Path: path, Flags: flags}}
}

func path2(op int, path, path2 string) api.Packet {
	return api.Packet{Op: op, Call: api.Call{Path: path, Path2: path2}}
}

func on(op, inode, flags int) api.Packet {
	return api.Packet{Op: op, Inode: inode, Call: api.Call{Flags: flags}}
}
