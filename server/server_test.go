package server_test

import (
	"slices"
	"strings"
	"testing"

	"commons/api"
	"commons/layout"
	"commons/lease"
	"commons/pmem"
	"commons/server"
	"commons/wire"
)

func took(client, id int) server.Mark  { return server.Mark{Client: client, Id: id, Took: true} }
func plain(client, id int) server.Mark { return server.Mark{Client: client, Id: id} }

// P22.1
func TestNew(t *testing.T) {
	for _, m := range []*pmem.Memory{nil, pmem.New(64)} {
		if s, e := server.New(m, 0); s != nil || e != api.ErrArg {
			t.Error(e)
		}
	}
	if s, e := server.New(pmem.New(layout.Size()), 0); s != nil || e != api.ErrCorrupt {
		t.Error(e)
	}
	b := fresh(t)
	for c := 1; c <= 8; c++ {
		if s, _ := b.Volume().Slot(c); b.Epoch(c) != 1 || s != (api.Slot{Epoch: 1}) {
			t.Error(c, b.Epoch(c), s)
		}
	}
	if b.Epoch(0) != 0 || b.Epoch(9) != 0 || len(b.Leases().All()) != 0 || b.Volume().Commits() != 8 {
		t.Error(b.Epoch(0), b.Volume().Commits())
	}
	b.marked(t)
	b.slot(t, 5, func(s *api.Slot) { s.Epoch = api.MaxEpoch })
	if s, e := server.New(b.m, 0); s != nil || e != api.ErrArg {
		t.Error(e)
	}
}

// P22.1 and P22.4: New applies what is in the logs.
func TestNewApplies(t *testing.T) {
	b := fresh(t).loud()
	b.hello(t, 2, 3)
	i := b.open(t, 2, "/a")
	b.ok(t, 2, on(api.Grant, i, 1))
	b.write(t, 2, api.Record{Call: 7, Inode: i, Data: "seven"}, true)
	b.write(t, 2, api.Record{Call: 8, Inode: 9, Data: "of none"}, true)
	b.write(t, 2, api.Record{Call: 9, Inode: i, Off: 5, Data: "!"}, true)
	b.m.Crash(nil)
	b.start(t)
	b.marked(t, took(2, 7), took(2, 9))
	b.marked(t)
	b.bytes(t, i, "seven!")
	if s, _ := b.Volume().Slot(2); s.Epoch != 3 || s.Head != 0 || s.Wrote != 9 || b.Epoch(2) != 3 {
		t.Error(s)
	}
}

// P22.2
func TestReceiveOfNothing(t *testing.T) {
	b := fresh(t)
	hello, _ := wire.Put(api.Packet{Kind: api.RpcAsk, Client: 1, Op: api.Hello, Seq: 1})
	for i, data := range [][]byte{nil, {0, 0, 0, 0}, hello[1:], hello[:len(hello)-1], []byte("no packet at all")} {
		if l := b.Receive(data, 0); len(l) != 0 {
			t.Error(i, l)
		}
	}
	for _, p := range []api.Packet{{Kind: api.VerbTold, Client: 1, Op: 1}, {Kind: api.RpcTold, Client: 1, Op: api.Hello, Seq: 1}, {Kind: api.Recall, Client: 1, Inode: 1}} {
		b.gets(t, p)
	}
	b.marked(t)
	b.hello(t, 1)
}

// P22.2: questions by their numbers.
func TestNumbers(t *testing.T) {
	b := fresh(t)
	ask := func(seq, epoch int, p api.Packet) api.Packet {
		p.Kind, p.Client, p.Seq, p.Epoch = api.RpcAsk, 1, seq, epoch
		return p
	}
	b.gets(t, ask(0, 0, api.Packet{Op: api.Hello}))
	b.gets(t, ask(0, 0, api.Packet{Op: api.Resume}))
	b.gets(t, ask(1<<40+1, 0, api.Packet{Op: api.Hello}))
	last := ask(1<<40, 0, api.Packet{Op: api.Hello})
	last.Client = 8
	b.gets(t, last, told(last, func(a *api.Packet) { a.At = 2 }))
	b.gets(t, last, told(last, func(a *api.Packet) { a.At = 2 }))
	b.Marks()
	hello := ask(5, 0, api.Packet{Op: api.Hello})
	b.gets(t, hello, told(hello, func(a *api.Packet) { a.At = 2 }))
	b.marked(t, server.Mark{Client: 1, Id: 5, Fresh: true})
	b.gets(t, hello, told(hello, func(a *api.Packet) { a.At = 2 }))
	b.gets(t, ask(4, 2, path1(api.List, "/", 0)))
	open := ask(7, 2, path1(api.Open, "/a", 1))
	b.gets(t, open, told(open, func(a *api.Packet) { a.Inode = 2 }))
	b.marked(t, plain(1, 7))
	b.gets(t, open, told(open, func(a *api.Packet) { a.Inode = 2 }))
	b.gets(t, ask(7, 9, path1(api.List, "/", 0)), told(open, func(a *api.Packet) { a.Inode = 2 }))
	b.gets(t, hello)
	b.gets(t, ask(6, 2, path1(api.Mkdir, "/d", 0)))
	old := ask(8, 1, path1(api.Mkdir, "/d", 0))
	b.gets(t, old, told(old, failed(api.ErrEpoch)))
	b.gets(t, old, told(old, failed(api.ErrEpoch)))
	next := ask(8, 3, path1(api.List, "/", 0))
	b.gets(t, next, told(next, failed(api.ErrEpoch)))
	b.marked(t)
	list := ask(8, 2, path1(api.List, "/", 0))
	b.gets(t, list, told(list, func(a *api.Packet) { a.Reply.Names = []string{"a"} }))
	if x, _ := b.Volume().Meta().Inode(2); x.Opens != [8]int{1} {
		t.Error(x)
	}
}

// P22.2 and P22.5: after a crash, the slot remembers the last modifying question.
func TestNumbersAfterCrash(t *testing.T) {
	b := fresh(t)
	b.hello(t, 1)
	open := b.question(1, path1(api.Open, "/a", 1))
	b.gets(t, open, told(open, func(a *api.Packet) { a.Inode = 2 }))
	dir := b.question(1, path1(api.Mkdir, "/a", 0))
	b.gets(t, dir, told(dir, failed(api.ErrExist)))
	b.m.Crash(nil)
	b.start(t)
	b.gets(t, dir, told(dir, failed(api.ErrEpoch)))
	b.gets(t, open)
	open.Epoch, dir.Epoch = b.Epoch(1), b.Epoch(1)
	b.gets(t, open)
	again := dir
	again.Op, again.Call = api.Mkdir, api.Call{Path: "/other"}
	b.gets(t, again, told(dir, failed(api.ErrExist)))
	b.marked(t)
	b.gets(t, open)
	hello := api.Packet{Kind: api.RpcAsk, Client: 1, Op: api.Hello, Seq: 1}
	b.gets(t, hello)
	list := b.question(1, path1(api.List, "/", 0))
	b.gets(t, list, told(list, func(a *api.Packet) { a.Reply.Names = []string{"a"} }))
	b.m.Crash(nil)
	b.start(t)
	old := list
	old.Seq, old.Epoch = 1, b.Epoch(1)
	b.gets(t, old, told(old, func(a *api.Packet) { a.Reply.Names = []string{"a"} }))
	if x, _ := b.Volume().Meta().Inode(2); x.Opens != [8]int{1} {
		t.Error(x)
	}
}

// P22.2: Hello.
func TestHello(t *testing.T) {
	b := fresh(t).loud()
	b.hello(t, 1, 2)
	i, k := b.open(t, 1, "/a"), b.open(t, 1, "/b")
	b.open(t, 2, "/b")
	b.ok(t, 1, path1(api.Unlink, "/a", 0))
	b.ok(t, 1, path1(api.Unlink, "/b", 0))
	b.ok(t, 1, on(api.Grant, k, 1))
	b.write(t, 1, api.Record{Call: 77, Inode: k, Data: "kept"}, true)
	b.Marks()
	b.asks(t, 1, api.Packet{Op: api.Hello}, func(a *api.Packet) { a.At = 3 })
	b.marked(t, took(1, 77), server.Mark{Client: 1, Id: b.seqs[1], Fresh: true})
	if s, _ := b.Volume().Slot(1); s != (api.Slot{Epoch: 3, Rpc: b.seqs[1], Wrote: 77}) || b.Epoch(1) != 3 {
		t.Error(s, b.Epoch(1))
	}
	x, _ := b.Volume().Meta().Inode(i)
	y, _ := b.Volume().Meta().Inode(k)
	if x != (api.Inode{}) || y.Opens != [8]int{1: 1} || len(b.Leases().All()) != 0 {
		t.Error(x, y, b.Leases().All())
	}
	b.bytes(t, k, "kept")
}

// P22.2: a Hello that was executed before a crash.
func TestHelloAfterCrash(t *testing.T) {
	b := fresh(t)
	hello := b.question(1, api.Packet{Op: api.Hello})
	b.gets(t, hello, told(hello, func(a *api.Packet) { a.At = 2 }))
	b.start(t)
	b.Marks()
	commits := b.Volume().Commits()
	b.gets(t, hello, told(hello, func(a *api.Packet) { a.At = 3 }))
	if s, _ := b.Volume().Slot(1); s.Epoch != 3 || b.Volume().Commits() != commits {
		t.Error(s)
	}
	b.open(t, 1, "/a")
}

// P22.2: no epoch is left.
func TestMaxEpoch(t *testing.T) {
	b := fresh(t)
	b.hello(t, 1)
	b.slot(t, 1, func(s *api.Slot) { s.Epoch = api.MaxEpoch })
	b.Marks()
	commits := b.Volume().Commits()
	b.asks(t, 1, api.Packet{Op: api.Hello}, func(a *api.Packet) { a.Errno, a.At = api.ErrArg, api.MaxEpoch })
	b.marked(t, server.Mark{Client: 1, Id: 2, Fresh: true, Errno: api.ErrArg})
	if s, _ := b.Volume().Slot(1); s.Epoch != api.MaxEpoch || s.Rpc != 1 || b.Volume().Commits() != commits {
		t.Error(s)
	}
	clean := b.question(1, api.Packet{Op: api.Clean})
	clean.Epoch = api.MaxEpoch
	if l := b.send(t, clean); len(l) != 1 || l[0].Errno != api.ErrArg {
		t.Error(l)
	}
}

// P22.2: a Hello in the last epoch leaves the log as it is.
func TestHelloInLastEpoch(t *testing.T) {
	b := fresh(t).loud()
	b.hello(t, 1)
	i := b.open(t, 1, "/a")
	b.slot(t, 1, func(s *api.Slot) { s.Epoch = api.MaxEpoch - 1 })
	b.start(t)
	b.write(t, 1, api.Record{Call: 9, Inode: i, Data: "x"}, true)
	b.Marks()
	if l := b.send(t, b.question(1, api.Packet{Op: api.Hello})); len(l) != 1 || l[0].Errno != api.ErrArg || l[0].At != api.MaxEpoch {
		t.Error(l)
	}
	b.marked(t, server.Mark{Client: 1, Id: b.seqs[1], Fresh: true, Errno: api.ErrArg})
	if x, _ := b.Volume().Meta().Inode(i); len(b.Volume().Pending(1)) != 1 || x.Opens[0] != 1 {
		t.Error("something happened", b.Volume().Pending(1), x)
	}
}

// P22.2: what cannot be committed is answered with lack of room, once.
func TestChangeTooGreat(t *testing.T) {
	b := fresh(t)
	b.hello(t, 1)
	block, _ := layout.Find(layout.Data, 100)
	for range 15 {
		if e := b.Volume().Store(block.At, make([]byte, 256)); e != api.OK {
			t.Fatal(e)
		}
	}
	b.Marks()
	q := b.asks(t, 1, path1(api.Open, "/a", 1), failed(api.ErrSpace))
	b.marked(t, server.Mark{Client: 1, Id: q.Seq, Errno: api.ErrSpace})
	s, _ := b.Volume().Slot(1)
	if l, _ := b.Volume().Meta().List("/"); s.Rpc != q.Seq || s.Kept != (api.Answer{Errno: api.ErrSpace}) || len(l) != 0 {
		t.Error(s, l)
	}
	b.gets(t, q, told(q, failed(api.ErrSpace)))
	b.open(t, 1, "/a")
}

// P22.2: Resume.
func TestResume(t *testing.T) {
	b := fresh(t).loud()
	b.hello(t, 1)
	i := b.open(t, 1, "/a")
	b.ok(t, 1, on(api.Grant, i, 1))
	b.write(t, 1, api.Record{Call: 55, Inode: i, Data: "x"}, true)
	b.Marks()
	q := b.question(1, api.Packet{Op: api.Resume})
	q.Epoch = 0
	b.gets(t, q, told(q, func(a *api.Packet) { a.At = 2 }))
	b.ok(t, 1, on(api.Give, i, 0))
	b.asks(t, 1, api.Packet{Op: api.Resume}, func(a *api.Packet) { a.At, a.Wrote = 2, 55 })
	q.Seq = 1
	b.gets(t, q, told(q, func(a *api.Packet) { a.At, a.Wrote = 2, 55 }))
	q.Seq, q.Op, q.Epoch = b.seqs[1], api.List, 2
	q.Call.Path = "/"
	b.gets(t, q, told(q, func(a *api.Packet) { a.Reply.Names = []string{"a"} }))
}

// P22.2: the modifying questions are the calls of meta.
func TestModifying(t *testing.T) {
	b := fresh(t)
	b.hello(t, 1, 2)
	b.Marks()
	for i, c := range []struct {
		p     api.Packet
		e     api.Errno
		inode int
	}{
		{path1(api.Mkdir, "/d", 0), api.OK, 0}, {path1(api.Mkdir, "/d", 0), api.ErrExist, 0}, {path1(api.Open, "/d/a", 1), api.OK, 3}, {path1(api.Open, "/d/a", 0), api.OK, 3}, {path1(api.Open, "/d/a", 3), api.ErrExist, 0},
		{path1(api.Open, "/d/a", 2), api.ErrInval, 0}, {path1(api.Open, "/d/a", 6), api.ErrInval, 0}, {path1(api.Open, "/d/a", 4), api.ErrManyFd, 0}, {path1(api.Open, "/d/b", 5), api.ErrManyFd, 0}, {path1(api.Open, "/d/b", 7), api.ErrManyFd, 0}, {path1(api.Open, "/d", 7), api.ErrExist, 0}, {path1(api.Open, "/d/b", 4), api.ErrNone, 0},
		{path2(api.Link, "/d/a", "/b"), api.OK, 0}, {path2(api.Link, "/d/a", "/b"), api.ErrExist, 0}, {path2(api.Rename, "/b", "/c"), api.OK, 0}, {path2(api.Rename, "/b", "/c"), api.ErrNone, 0}, {path1(api.Rmdir, "/d", 0), api.ErrInside, 0},
		{path1(api.Unlink, "/d/a", 0), api.OK, 0}, {path1(api.Unlink, "/d/a", 0), api.ErrNone, 0}, {path1(api.Rmdir, "/d", 0), api.OK, 0}, {on(api.Close, 3, 0), api.OK, 0}, {on(api.Close, 3, 0), api.OK, 0}, {on(api.Close, 3, 0), api.ErrBadFd, 0}, {on(api.Close, 99, 0), api.ErrBadFd, 0},
	} {
		commits := b.Volume().Commits()
		q := b.asks(t, 1, c.p, func(a *api.Packet) { a.Errno, a.Inode = c.e, c.inode })
		b.marked(t, server.Mark{Client: 1, Id: q.Seq, Errno: c.e})
		s, _ := b.Volume().Slot(1)
		if s.Rpc != q.Seq || s.Kept != (api.Answer{Errno: c.e, Inode: c.inode}) || b.Volume().Commits() != commits+1 {
			t.Error(i, s, b.Volume().Commits()-commits)
		}
		if l, _ := b.Volume().Meta().List("/"); i == 10 && !slices.Equal(l, []string{"d"}) {
			t.Error(l)
		}
	}
	if l, _ := b.Volume().Meta().List("/"); !slices.Equal(l, []string{"c"}) {
		t.Error(l)
	}
}

// P22.2: Close applies the client's log first, and gives the grant back with the last descriptor.
func TestClose(t *testing.T) {
	b := fresh(t).loud()
	b.hello(t, 1)
	i := b.open(t, 1, "/a")
	b.open(t, 1, "/a")
	b.ok(t, 1, on(api.Grant, i, 1))
	b.write(t, 1, api.Record{Call: 1, Inode: i, Data: "one"}, true)
	b.Marks()
	b.ok(t, 1, on(api.Close, i, 0))
	b.marked(t, took(1, 1), plain(1, b.seqs[1]))
	b.bytes(t, i, "one")
	if len(b.Leases().All()) != 1 {
		t.Error(b.Leases().All())
	}
	b.write(t, 1, api.Record{Call: 2, Inode: i, Data: "two"}, true)
	b.Marks()
	b.ok(t, 1, path1(api.Mkdir, "/d", 0))
	b.marked(t, plain(1, b.seqs[1]))
	b.asks(t, 1, on(api.Close, 30, 0), failed(api.ErrBadFd))
	b.marked(t, took(1, 2), server.Mark{Client: 1, Id: b.seqs[1], Errno: api.ErrBadFd})
	if len(b.Leases().All()) != 1 {
		t.Error(b.Leases().All())
	}
	b.ok(t, 1, on(api.Close, i, 0))
	if len(b.Leases().All()) != 0 {
		t.Error(b.Leases().All())
	}
}

// P22.2: List and Stat.
func TestListAndStat(t *testing.T) {
	b := fresh(t).loud()
	b.hello(t, 1, 2)
	i := b.open(t, 1, "/b")
	b.ok(t, 2, path1(api.Mkdir, "/a", 0))
	b.ok(t, 1, on(api.Grant, i, 1))
	b.write(t, 1, api.Record{Call: 9, Inode: i, Data: "12345"}, true)
	b.Marks()
	b.asks(t, 2, path1(api.List, "/", 0), func(a *api.Packet) { a.Reply.Names = []string{"a", "b"} })
	b.marked(t, plain(2, b.seqs[2]))
	b.asks(t, 2, path1(api.List, "/b", 0), failed(api.ErrNotDir))
	b.marked(t, server.Mark{Client: 2, Id: b.seqs[2], Errno: api.ErrNotDir})
	b.bytes(t, i, "")
	b.asks(t, 2, path1(api.Stat, "/b", 0), func(a *api.Packet) { a.Reply.Info = api.Info{Kind: api.File, Links: 1, Size: 5} })
	b.marked(t, took(1, 9), plain(2, b.seqs[2]))
	b.asks(t, 2, path1(api.Stat, "/x", 0), failed(api.ErrNone))
	b.asks(t, 2, path1(api.Stat, "/", 0), func(a *api.Packet) { a.Reply.Info = api.Info{Kind: api.Dir, Links: 1, Size: 2} })
}

// P22.2: answers that are kept share no memory with those that were given.
func TestAnswersAreNew(t *testing.T) {
	b := fresh(t)
	b.hello(t, 1)
	b.open(t, 1, "/a")
	q := b.question(1, path1(api.List, "/", 0))
	for range 3 {
		l := b.send(t, q)
		if len(l) != 1 || !slices.Equal(l[0].Reply.Names, []string{"a"}) {
			t.Fatal(l)
		}
		l[0].Reply.Names[0] = "changed"
	}
}

// P22.2: Grant.
func TestGrant(t *testing.T) {
	b := fresh(t)
	b.hello(t, 1, 2, 3)
	i := b.open(t, 1, "/a")
	b.open(t, 2, "/a")
	b.open(t, 3, "/a")
	b.now = 63
	b.asks(t, 1, on(api.Grant, i, 1), failed(api.ErrQuiet))
	b.asks(t, 1, on(api.Grant, 9, 1), failed(api.ErrQuiet))
	b.now = 64
	for _, bad := range []int{0, 1, 9, 32, 33, 255} {
		b.asks(t, 1, on(api.Grant, bad, 1), failed(api.ErrBadFd))
	}
	granted := func(a *api.Packet) {
		a.Inode, a.Node = i, api.Inode{Kind: api.File, Links: 1}
	}
	b.asks(t, 1, on(api.Grant, i, 0), granted)
	b.asks(t, 2, on(api.Grant, i, 2), granted)
	b.Marks()
	q := b.question(3, on(api.Grant, i, 1))
	recall := func(c int) api.Packet {
		return api.Packet{Kind: api.Recall, Client: c, Epoch: b.Epoch(c), Inode: i}
	}
	b.gets(t, q, told(q, failed(api.ErrAgain)), recall(1), recall(2))
	b.gets(t, q, told(q, failed(api.ErrAgain)))
	b.ok(t, 1, on(api.Give, i, 0))
	b.ok(t, 2, on(api.Give, i, 0))
	b.asks(t, 2, on(api.Grant, i, 0), failed(api.ErrAgain))
	b.asks(t, 3, on(api.Grant, i, 1), granted)
	q = b.question(1, on(api.Grant, i, 0))
	b.gets(t, q, told(q, failed(api.ErrAgain)), recall(3))
	b.marked(t)
	if l := b.Leases().All(); !slices.Equal(l, []lease.Held{{Client: 3, Inode: i, Own: true, Until: 128}}) {
		t.Error(l)
	}
	b.asks(t, 1, on(api.Give, i, 0), failed(api.ErrNone))
}

// P22.2: Grant and Give apply the client's log.
func TestGrantApplies(t *testing.T) {
	b := fresh(t).loud()
	b.hello(t, 1)
	i := b.open(t, 1, "/a")
	b.ok(t, 1, on(api.Grant, i, 1))
	b.write(t, 1, api.Record{Call: 4, Inode: i, Data: strings.Repeat("x", 64)}, true)
	b.write(t, 1, api.Record{Call: 5, Inode: i, Off: 64, Data: "y"}, true)
	b.Marks()
	a := b.ok(t, 1, on(api.Grant, i, 1))
	x, _ := b.Volume().Meta().Inode(i)
	x.Opens = [8]int{}
	if a.Node != x || x.Size != 65 || x.Blocks[1] == 0 {
		t.Error(a.Node, x)
	}
	b.marked(t, took(1, 4), took(1, 5))
	b.write(t, 1, api.Record{Call: 6, Inode: i, Trunc: true, Off: 3}, true)
	b.Marks()
	b.ok(t, 1, on(api.Give, i, 0))
	b.marked(t, took(1, 6))
	b.bytes(t, i, "xxx")
	b.asks(t, 1, on(api.Give, i, 0), failed(api.ErrNone))
}

// P22.2: own grants need room for all that their files may become.
func TestGrantWithoutRoom(t *testing.T) {
	b := fresh(t).loud()
	b.hello(t, 1, 2)
	i, k := b.open(t, 1, "/a"), b.open(t, 2, "/b")
	for _, path := range []string{"/p", "/q", "/r", "/s"} {
		b.ok(t, 2, path1(api.Mkdir, path, 0))
	}
	used := b.Volume().Meta().Map()
	for used.Count() < 128-7 {
		used = used.Take(used.First(1))
	}
	b.Volume().Meta().SetMap(used)
	b.Volume().Commit()
	b.ok(t, 1, on(api.Grant, i, 1))
	b.asks(t, 2, on(api.Grant, k, 1), failed(api.ErrSpace))
	b.ok(t, 2, on(api.Grant, k, 0))
	if l := b.Leases().All(); len(l) != 2 || l[1].Own {
		t.Error(l)
	}
	b.asks(t, 2, on(api.Grant, k, 1), failed(api.ErrSpace))
	if l := b.Leases().All(); len(l) != 1 {
		t.Error("not given back", l)
	}
	for _, path := range []string{"/p/x", "/q/x", "/r/x"} {
		b.ok(t, 2, path1(api.Mkdir, path, 0))
	}
	b.asks(t, 2, path1(api.Mkdir, "/s/x", 0), failed(api.ErrSpace))
	for off := 0; off < 256; off += 64 {
		b.write(t, 1, api.Record{Call: off + 1, Inode: i, Off: off, Data: strings.Repeat("w", 64)}, true)
	}
	b.ok(t, 1, on(api.Give, i, 0))
	b.bytes(t, i, strings.Repeat("w", 256))
}

// P22.2: own grants take just as much room as there is, and shared ones none.
func TestSpareOfGrants(t *testing.T) {
	b := fresh(t).loud()
	b.hello(t, 1, 2)
	i, k := b.open(t, 1, "/a"), b.open(t, 2, "/b")
	used := b.Volume().Meta().Map()
	for used.Count() < 128-4 {
		used = used.Take(used.First(1))
	}
	b.Volume().Meta().SetMap(used)
	b.Volume().Commit()
	b.ok(t, 2, on(api.Grant, k, 0))
	b.ok(t, 1, on(api.Grant, i, 1))
	b.asks(t, 2, path1(api.Mkdir, "/d", 0), failed(api.ErrSpace))
	if x, e := b.Volume().Meta().Inode(4); x != (api.Inode{}) || e != api.OK {
		t.Error("something of a call that failed stayed", x)
	}
	b.ok(t, 1, on(api.Give, i, 0))
	b.ok(t, 2, path1(api.Mkdir, "/d", 0))
}

// P22.2: Clean.
func TestClean(t *testing.T) {
	b := fresh(t).loud()
	b.hello(t, 1)
	i := b.open(t, 1, "/a")
	b.ok(t, 1, on(api.Grant, i, 1))
	b.write(t, 1, api.Record{Call: 4, Inode: i, Data: "x"}, true)
	b.Marks()
	q := b.asks(t, 1, api.Packet{Op: api.Clean}, func(a *api.Packet) { a.At = 3 })
	b.marked(t, took(1, 4))
	if s, _ := b.Volume().Slot(1); s.Epoch != 3 || s.Head != 0 || b.Epoch(1) != 3 || len(b.Leases().All()) != 1 {
		t.Error(s, b.Epoch(1), b.Leases().All())
	}
	b.gets(t, q, told(q, func(a *api.Packet) { a.At = 3 }))
	b.bytes(t, i, "x")
}

// P22.2: other questions.
func TestOtherQuestions(t *testing.T) {
	b := fresh(t)
	b.hello(t, 1)
	for _, op := range []int{0, 14, 19, 25, 255} {
		b.asks(t, 1, api.Packet{Op: op}, failed(api.ErrInval))
	}
	q := b.question(1, api.Packet{Op: 99})
	b.gets(t, q, told(q, failed(api.ErrInval)))
	q.Op = api.List
	q.Call.Path = "/"
	l := b.send(t, q)
	if len(l) != 1 || l[0].Op != 99 {
		t.Error("not the last question", l)
	}
}

// P22.2: verbs.
func TestVerbs(t *testing.T) {
	b := fresh(t)
	b.hello(t, 1)
	b.Marks()
	log, _ := layout.Find(layout.Logs, 1)
	b.verb(t, 1, api.Packet{Op: api.Put, At: log.At + 500, Data: "abc"})
	if a := b.verb(t, 1, api.Packet{Op: api.Get, At: log.At + 500, N: 4}); a.Data != "abc\x00" {
		t.Error(a)
	}
	b.marked(t, server.Mark{Client: 1, Read: true})
	p := api.Packet{Kind: api.VerbAsk, Client: 1, Epoch: 2, Seq: 2, Op: api.Get, At: log.At + 500, N: 4}
	if l := b.send(t, p); len(l) != 1 || l[0].Data != "abc\x00" {
		t.Error(l)
	}
	p.Seq = 9
	b.gets(t, p)
	p.Epoch = 1
	if l := b.send(t, p); len(l) != 1 || l[0].Errno != api.ErrEpoch {
		t.Error(l)
	}
	b.marked(t)
}

// P22.4: a record that appears in a log.
func TestMarksOfRecords(t *testing.T) {
	b := fresh(t).loud()
	b.hello(t, 1)
	i := b.open(t, 1, "/a")
	b.ok(t, 1, on(api.Grant, i, 1))
	b.Marks()
	b.write(t, 1, api.Record{Call: 31, Inode: i, Data: "x"}, false)
	b.marked(t, plain(1, 31))
	log, _ := layout.Find(layout.Logs, 1)
	b.verb(t, 1, api.Packet{Op: api.Flush, At: log.At, N: 8})
	b.marked(t)
	b.write(t, 1, api.Record{Call: 32, Inode: i, Data: "y"}, true)
	b.marked(t, plain(1, 32))
}

// P22.4: the example.
func TestMarks(t *testing.T) {
	b := fresh(t)
	b.hello(t, 1)
	b.open(t, 1, "/a")
	b.marked(t, server.Mark{Client: 1, Id: 1, Fresh: true}, plain(1, 2))
	b.marked(t)
}

// P22.3
func TestTick(t *testing.T) {
	b := fresh(t).loud()
	b.hello(t, 1, 2, 3)
	i, k := b.open(t, 1, "/a"), b.open(t, 1, "/b")
	b.open(t, 2, "/b")
	b.ok(t, 1, on(api.Grant, i, 1))
	b.now += 10
	b.ok(t, 1, on(api.Grant, k, 0))
	b.ok(t, 2, on(api.Grant, k, 0))
	b.write(t, 1, api.Record{Call: 4, Inode: i, Data: "x"}, true)
	b.Marks()
	b.Tick(127)
	b.marked(t)
	if b.Epoch(1) != 2 || len(b.Leases().All()) != 3 {
		t.Error(b.Epoch(1), b.Leases().All())
	}
	b.Tick(128)
	b.marked(t, took(1, 4))
	if s, _ := b.Volume().Slot(1); s.Epoch != 3 || s.Wrote != 4 || b.Epoch(1) != 3 || b.Epoch(2) != 2 {
		t.Error(s, b.Epoch(1), b.Epoch(2))
	}
	if l := b.Leases().All(); !slices.Equal(l, []lease.Held{{Client: 1, Inode: k, Until: 138}, {Client: 2, Inode: k, Until: 138}}) {
		t.Error(l)
	}
	b.Tick(200)
	if b.Epoch(1) != 4 || b.Epoch(2) != 3 || b.Epoch(3) != 2 || len(b.Leases().All()) != 0 {
		t.Error(b.Epoch(1), b.Epoch(2), b.Leases().All())
	}
	b.bytes(t, i, "x")
}

// P22.6
func TestOldEpoch(t *testing.T) {
	b := fresh(t).loud()
	b.hello(t, 1)
	i := b.open(t, 1, "/a")
	b.ok(t, 1, on(api.Grant, i, 1))
	epoch := b.Epoch(1)
	b.Tick(1000)
	before, _ := b.m.Load(0, b.m.Size())
	log, _ := layout.Find(layout.Logs, 1)
	for seq := range 5 {
		for op := 1; op <= 4; op++ {
			p := api.Packet{Kind: api.VerbAsk, Client: 1, Epoch: epoch, Seq: seq, Op: op, At: log.At, N: 8, Data: "overwrite"}
			if l := b.send(t, p); len(l) != 1 || l[0].Errno != api.ErrEpoch {
				t.Error(l)
			}
		}
	}
	for _, op := range []int{api.Open, api.Close, api.Mkdir, api.Rmdir, api.Link, api.Unlink, api.Rename, api.List, api.Stat, api.Grant, api.Give, api.Clean, 99} {
		q := b.question(1, api.Packet{Op: op, Inode: i, Call: api.Call{Path: "/a", Path2: "/b", Flags: 1}})
		q.Epoch = epoch
		b.gets(t, q, told(q, failed(api.ErrEpoch)))
	}
	if after, _ := b.m.Load(0, b.m.Size()); !slices.Equal(before, after) {
		t.Error("something changed")
	}
}

// P22.7
func TestGrantsNeverConflict(t *testing.T) {
	b := fresh(t).loud()
	b.hello(t, 1, 2, 3)
	seed := uint32(1)
	next := func(n int) int {
		seed = seed*1664525 + 1013904223
		return int(seed>>8) % n
	}
	for c := 1; c <= 3; c++ {
		b.open(t, c, "/a")
		b.open(t, c, "/b")
	}
	for i := range 3000 {
		b.now += next(4)
		c := 1 + next(3)
		p := on(api.Grant, 2+next(2), next(2))
		if next(3) == 0 {
			p.Op = api.Give
		}
		b.send(t, b.question(c, p))
		if next(5) == 0 {
			b.Tick(b.now)
		}
		all := b.Leases().All()
		for k, x := range all {
			for _, y := range all[:k] {
				if x.Inode == y.Inode && (x.Own || y.Own) {
					t.Fatal(i, all)
				}
			}
		}
	}
}

// P22.8
func TestAfterCrash(t *testing.T) {
	seed := uint32(9)
	for range 40 {
		picks := make([]int, 60)
		for i := range picks {
			seed = seed*1664525 + 1013904223
			picks[i] = int(seed >> 20)
		}
		b := fresh(t).loud()
		b.hello(t, 1, 2)
		b.ok(t, 2, path1(api.Mkdir, "/d", 0))
		i := b.open(t, 1, "/d/a")
		b.open(t, 2, "/d/a")
		b.ok(t, 1, path1(api.Unlink, "/d/a", 0))
		b.ok(t, 1, on(api.Grant, i, 1))
		b.write(t, 1, api.Record{Call: 1, Inode: i, Data: "durable"}, true)
		b.write(t, 1, api.Record{Call: 2, Inode: i, Off: 7, Data: " or not"}, false)
		b.m.Crash(picks)
		b.start(t)
		if s, e := b.Volume().Files().Bytes(i); e != api.OK || s != "durable" && s != "durable or not" {
			t.Fatalf("%q %d", s, e)
		}
		x, _ := b.Volume().Meta().Inode(i)
		if l, _ := b.Volume().Meta().List("/"); !slices.Equal(l, []string{"d"}) || x.Opens != [8]int{1, 1} || x.Links != 0 {
			t.Fatal(l, x)
		}
	}
}
