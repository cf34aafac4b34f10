package client_test

import (
	"math"
	"strings"
	"testing"

	"commons/api"
	"commons/client"
	"commons/wire"
)

var big = strings.Repeat("0123456789abcdef", 4)

func readCall(fd, off, n int) api.Call {
	return api.Call{Kind: api.Read, Fd: fd, Off: off, N: n}
}

func writeCall(fd, off int, data string) api.Call {
	return api.Call{Kind: api.Write, Fd: fd, Off: off, Data: data}
}

// P23.1
func TestNew(t *testing.T) {
	for _, n := range []int{0, 9, -1, math.MaxInt, math.MinInt} {
		if client.New(n) != nil {
			t.Error(n)
		}
	}
	for n := 1; n <= 8; n++ {
		c := client.New(n)
		if c == nil || c.Busy() || c.Id() != 0 || len(c.Trusts(0)) != 0 {
			t.Fatal(n)
		}
		if _, ok := c.Told(); ok {
			t.Error(n)
		}
		none(t, c.Tick(100))
		c.Stop()
		if l, e := c.Ask(api.Call{Kind: api.Sync}, 0); e != api.ErrDown || len(l) != 0 {
			t.Error(n, e)
		}
	}
}

// P23.1
func TestStart(t *testing.T) {
	c := client.New(2)
	for _, life := range []int{0, -1, 1 << 20, math.MaxInt, math.MinInt} {
		if l, e := c.Start(life, 0); e != api.ErrArg || len(l) != 0 {
			t.Error(life, e)
		}
	}
	if _, e := c.Ask(api.Call{}, 0); e != api.ErrDown {
		t.Error("a Start that was refused", e)
	}
	for _, life := range []int{1, 5, 1<<20 - 1} {
		l, e := c.Start(life, 7)
		want := api.Packet{Kind: api.RpcAsk, Client: 2, Op: api.Hello, Seq: life<<20 + 1}
		if p := one(t, l); e != api.OK || !same(p, want) {
			t.Error(life, e, p)
		}
		if c.Start(0, 0); c.Busy() {
			t.Error("busy")
		}
	}
}

// P23.1: a new life has nothing of an earlier one.
func TestStartAgain(t *testing.T) {
	b := started(t, 1)
	b.open(t, 4, 0)
	none(t, b.written(t, b.granted(t, b.ask(t, writeCall(0, 0, "x")), 4, 1, file(0)), api.Record{Call: b.seq + 1, Inode: 4, Data: "x"}))
	b.Stop()
	if _, ok := b.Told(); ok || b.Busy() || b.Id() != 0 || len(b.Trusts(b.now)) != 0 {
		t.Error("after Stop")
	}
	none(t, b.recall(t, 4))
	none(t, b.Tick(1000))
	l, _ := b.Start(2, 50)
	b.epoch = 0
	q := b.question(t, l, api.Packet{Op: api.Hello})
	if q.Seq != 2<<20+1 {
		t.Error(q.Seq)
	}
	none(t, b.begin(t, q, 9))
	none(t, b.ask(t, api.Call{Kind: api.Sync}))
	b.told(t, api.Reply{Errno: api.ErrBadFd})
	b.trusts(t)
}

// P23.2: Hello.
func TestHello(t *testing.T) {
	c := client.New(2)
	l, _ := c.Start(1, 0)
	b := &bench{Client: c, number: 2}
	q := b.question(t, l, api.Packet{Op: api.Hello})
	none(t, b.ask(t, api.Call{Kind: api.Sync}))
	if !b.Busy() {
		t.Error("not busy before there is an epoch")
	}
	b.silent(t)
	none(t, b.answer(t, q, api.Packet{Errno: api.ErrArg, At: 7}))
	b.now = 7
	none(t, b.Tick(7))
	b.now = 8
	q = b.question(t, b.Tick(8), api.Packet{Op: api.Hello})
	none(t, b.begin(t, q, 3))
	b.told(t, api.Reply{Errno: api.ErrBadFd})
}

// P23.2: a call that needs the server waits for the epoch.
func TestCallBeforeHello(t *testing.T) {
	c := client.New(2)
	l, _ := c.Start(1, 0)
	b := &bench{Client: c, number: 2}
	q := b.question(t, l, api.Packet{Op: api.Hello})
	none(t, b.ask(t, api.Call{Kind: api.Mkdir, Path: "/d"}))
	if b.Id() != 0 {
		t.Error(b.Id())
	}
	b.question(t, b.begin(t, q, 6), api.Packet{Op: api.Mkdir, Call: api.Call{Path: "/d"}})
	if b.Id() != b.seq {
		t.Error(b.Id())
	}
}

// P23.2: answers that need no server.
func TestAtOnce(t *testing.T) {
	b := started(t, 1)
	b.open(t, 4, 0)
	long := "/" + strings.Repeat("x", 100)
	for i, c := range []struct {
		call api.Call
		want api.Errno
	}{
		{api.Call{}, api.ErrInval}, {api.Call{Kind: 14}, api.ErrInval}, {api.Call{Kind: -1}, api.ErrInval}, {api.Call{Kind: api.Hello}, api.ErrInval}, {api.Call{Kind: math.MaxInt}, api.ErrInval},
		{api.Call{Kind: api.Open, Path: "/a", Flags: 2}, api.ErrInval}, {api.Call{Kind: api.Open, Path: "/a", Flags: 4}, api.ErrInval}, {api.Call{Kind: api.Open, Path: "/a", Flags: -1}, api.ErrInval}, {api.Call{Kind: api.Open, Path: long}, api.ErrInval},
		{api.Call{Kind: api.Mkdir, Path: long}, api.ErrInval}, {api.Call{Kind: api.Rmdir, Path: long}, api.ErrInval}, {api.Call{Kind: api.Unlink, Path: long}, api.ErrInval}, {api.Call{Kind: api.List, Path: long}, api.ErrInval}, {api.Call{Kind: api.Stat, Path: long}, api.ErrInval},
		{api.Call{Kind: api.Link, Path: "/a", Path2: long}, api.ErrInval}, {api.Call{Kind: api.Link, Path: long, Path2: "/a"}, api.ErrInval}, {api.Call{Kind: api.Rename, Path: "/a", Path2: long}, api.ErrInval}, {api.Call{Kind: api.Rename, Path: long}, api.ErrInval},
		{api.Call{Kind: api.Close, Fd: 1}, api.ErrBadFd}, {api.Call{Kind: api.Close, Fd: -1}, api.ErrBadFd}, {api.Call{Kind: api.Close, Fd: 8}, api.ErrBadFd}, {api.Call{Kind: api.Close, Fd: math.MaxInt}, api.ErrBadFd},
		{readCall(1, -1, 99), api.ErrBadFd}, {writeCall(1, -1, ""), api.ErrBadFd}, {writeCall(7, 0, ""), api.ErrBadFd}, {api.Call{Kind: api.Trunc, Fd: 2, N: -1}, api.ErrBadFd}, {api.Call{Kind: api.Sync, Fd: 7}, api.ErrBadFd}, {api.Call{Kind: api.Sync, Fd: math.MinInt}, api.ErrBadFd},
		{readCall(0, -1, 0), api.ErrInval}, {readCall(0, 0, -1), api.ErrInval}, {readCall(0, 0, 65), api.ErrInval}, {writeCall(0, -1, ""), api.ErrInval}, {writeCall(0, 0, big+"x"), api.ErrInval}, {writeCall(0, 9999, ""), api.OK}, {writeCall(0, 193, big), api.ErrBig}, {writeCall(0, math.MaxInt, "x"), api.ErrBig},
		{api.Call{Kind: api.Trunc, N: -1}, api.ErrInval}, {api.Call{Kind: api.Trunc, N: 257}, api.ErrBig}, {api.Call{Kind: api.Sync}, api.OK},
	} {
		none(t, b.ask(t, c.call))
		if b.Busy() || b.Id() != 0 {
			t.Error(i, "busy")
		}
		if _, e := b.Ask(c.call, b.now); e != api.ErrAgain {
			t.Error(i, "before Told", e)
		}
		b.told(t, api.Reply{Errno: c.want})
	}
	q := b.question(t, b.ask(t, api.Call{Kind: api.Mkdir, Path: long[:100], Path2: long, Flags: 9}), api.Packet{Op: api.Mkdir, Call: api.Call{Path: long[:100]}})
	none(t, b.answer(t, q, api.Packet{Errno: api.ErrInval}))
	b.told(t, api.Reply{Errno: api.ErrInval})
}

// P23.2: calls that just need the server.
func TestNotAtOnce(t *testing.T) {
	for i, c := range []api.Call{
		readCall(0, 0, 0), readCall(0, 0, 64), readCall(0, math.MaxInt, 1), writeCall(0, 192, big), writeCall(0, 255, "x"), writeCall(0, 0, "x"), {Kind: api.Trunc, N: 0}, {Kind: api.Trunc, N: 256}, {Kind: api.Close}, {Kind: api.Open}, {Kind: api.Stat},
	} {
		b := started(t, 8)
		b.open(t, 4, 0)
		one(t, b.ask(t, c))
		if !b.Busy() {
			t.Error(i)
		}
	}
}

// P23.2
func TestAskErrors(t *testing.T) {
	b := started(t, 1)
	q := b.question(t, b.ask(t, api.Call{Kind: api.Mkdir, Path: "/d"}), api.Packet{Op: api.Mkdir, Call: api.Call{Path: "/d"}})
	if l, e := b.Ask(api.Call{Kind: api.Sync}, 0); e != api.ErrAgain || len(l) != 0 || !b.Busy() || b.Id() != q.Seq {
		t.Error(e)
	}
	none(t, b.answer(t, q, api.Packet{}))
	if _, e := b.Ask(api.Call{Kind: api.Sync}, 0); e != api.ErrAgain || b.Busy() {
		t.Error(e)
	}
	b.told(t, api.Reply{})
	if b.Id() != q.Seq {
		t.Error("the number of the last call", b.Id())
	}
	none(t, b.ask(t, api.Call{Kind: api.Sync}))
	if b.Id() != 0 {
		t.Error("a new call", b.Id())
	}
}

// P23.2: the questions of the calls.
func TestQuestions(t *testing.T) {
	b := started(t, 3)
	for i, c := range []struct {
		call  api.Call
		q     api.Call
		a     api.Packet
		reply api.Reply
	}{
		{api.Call{Kind: api.Mkdir, Path: "/d"}, api.Call{Path: "/d"}, api.Packet{}, api.Reply{}},
		{api.Call{Kind: api.Mkdir, Path: "/d"}, api.Call{Path: "/d"}, api.Packet{Errno: api.ErrExist}, api.Reply{Errno: api.ErrExist}},
		{api.Call{Kind: api.Rmdir, Path: "bad path"}, api.Call{Path: "bad path"}, api.Packet{Errno: api.ErrInval}, api.Reply{Errno: api.ErrInval}},
		{api.Call{Kind: api.Link, Path: "/a", Path2: "/b"}, api.Call{Path: "/a", Path2: "/b"}, api.Packet{}, api.Reply{}},
		{api.Call{Kind: api.Unlink, Path: "/a", Path2: "/b", Flags: 3, N: 4, Off: 5, Data: "x", Fd: 6}, api.Call{Path: "/a"}, api.Packet{}, api.Reply{}},
		{api.Call{Kind: api.Rename, Path: "/a", Path2: "/b", Flags: 3}, api.Call{Path: "/a", Path2: "/b"}, api.Packet{}, api.Reply{}},
		{api.Call{Kind: api.List, Path: "/"}, api.Call{Path: "/"}, api.Packet{Reply: api.Reply{Names: []string{"a", "b"}}}, api.Reply{Names: []string{"a", "b"}}},
		{api.Call{Kind: api.List, Path: "/x"}, api.Call{Path: "/x"}, api.Packet{Errno: api.ErrNone, Reply: api.Reply{Names: []string{"a"}}}, api.Reply{Errno: api.ErrNone}},
		{api.Call{Kind: api.Stat, Path: "/a"}, api.Call{Path: "/a"}, api.Packet{Reply: api.Reply{Info: api.Info{Kind: 1, Links: 2, Size: 3}}}, api.Reply{Info: api.Info{Kind: 1, Links: 2, Size: 3}}},
		{api.Call{Kind: api.Open, Path: "/a", Flags: 3, Path2: "/b"}, api.Call{Path: "/a", Flags: 3}, api.Packet{Errno: api.ErrExist, Inode: 5}, api.Reply{Errno: api.ErrExist}},
		{api.Call{Kind: api.Open, Path: "/a"}, api.Call{Path: "/a"}, api.Packet{Inode: 5}, api.Reply{Fd: 0}},
		{api.Call{Kind: api.Open, Path: "/a", Flags: 1}, api.Call{Path: "/a", Flags: 1}, api.Packet{Inode: 6}, api.Reply{Fd: 1}},
	} {
		q := b.question(t, b.ask(t, c.call), api.Packet{Op: c.call.Kind, Call: c.q})
		if b.Id() != q.Seq || !b.Busy() {
			t.Error(i, b.Id())
		}
		none(t, b.answer(t, q, c.a))
		b.told(t, c.reply)
	}
}

// P23.2: Close, and descriptors.
func TestDescriptors(t *testing.T) {
	b := started(t, 1)
	for fd := range 8 {
		b.open(t, 2+fd%3, fd)
	}
	call := api.Call{Path: "/f", Flags: 1}
	q := b.question(t, b.ask(t, api.Call{Kind: api.Open, Path: "/f", Flags: 1}), api.Packet{Op: api.Open, Call: api.Call{Path: call.Path, Flags: 5}})
	none(t, b.answer(t, q, api.Packet{Errno: api.ErrManyFd}))
	b.told(t, api.Reply{Errno: api.ErrManyFd})
	for _, fd := range []int{5, 2} {
		q = b.question(t, b.ask(t, api.Call{Kind: api.Close, Fd: fd}), api.Packet{Op: api.Close, Inode: 2 + fd%3})
		none(t, b.answer(t, q, api.Packet{}))
		b.told(t, api.Reply{})
		none(t, b.ask(t, api.Call{Kind: api.Sync, Fd: fd}))
		b.told(t, api.Reply{Errno: api.ErrBadFd})
	}
	b.open(t, 9, 2)
	b.open(t, 9, 5)
	q = b.question(t, b.ask(t, api.Call{Kind: api.Close, Fd: 5}), api.Packet{Op: api.Close, Inode: 9})
	none(t, b.answer(t, q, api.Packet{Errno: api.ErrBadFd}))
	b.told(t, api.Reply{Errno: api.ErrBadFd})
	none(t, b.ask(t, api.Call{Kind: api.Sync, Fd: 5}))
	b.told(t, api.Reply{})
}

// P23.2: Close lets the lease go with the last descriptor.
func TestCloseAndLease(t *testing.T) {
	b := started(t, 1)
	b.open(t, 4, 0)
	b.open(t, 4, 1)
	none(t, b.gotNothing(t, b.granted(t, b.ask(t, readCall(0, 0, 1)), 4, 0, file(0))))
	b.told(t, api.Reply{})
	b.trusts(t, client.Trust{Inode: 4})
	q := b.question(t, b.ask(t, api.Call{Kind: api.Close, Fd: 0}), api.Packet{Op: api.Close, Inode: 4})
	b.trusts(t, client.Trust{Inode: 4})
	none(t, b.answer(t, q, api.Packet{}))
	b.told(t, api.Reply{})
	b.question(t, b.ask(t, api.Call{Kind: api.Close, Fd: 1}), api.Packet{Op: api.Close, Inode: 4})
	b.trusts(t)
}

// P23.2: Read.
func TestRead(t *testing.T) {
	b := started(t, 2)
	b.open(t, 4, 0)
	l := b.granted(t, b.ask(t, readCall(0, 60, 64)), 4, 0, file(130, 7, 9, 8))
	none(t, b.got(t, l, map[int]string{7: big, 9: strings.ToUpper(big), 8: "tail"}, 7, 9, 8))
	b.told(t, api.Reply{Data: "cdef" + strings.ToUpper(big)[:60]})
	b.trusts(t, client.Trust{Inode: 4})
	if b.Id() != 0 {
		t.Error("a Read has no number", b.Id())
	}
	b.now = 45
	l = b.ask(t, readCall(0, 126, 64))
	none(t, b.got(t, l, map[int]string{7: big, 9: big, 8: "tail"}, 7, 9, 8))
	b.told(t, api.Reply{Data: "ef" + "ta"})
	l = b.ask(t, readCall(0, 500, 64))
	none(t, b.got(t, l, nil, 7, 9, 8))
	b.told(t, api.Reply{})
	b.now = 46
	b.trusts(t)
	l = b.ask(t, readCall(0, 0, 3))
	none(t, b.gotNothing(t, b.granted(t, l, 4, 0, file(0))))
	b.told(t, api.Reply{})
}

// P23.2: a lease that is over in the middle of a Read.
func TestReadOverTime(t *testing.T) {
	b := started(t, 2)
	b.open(t, 4, 0)
	l := b.granted(t, b.ask(t, readCall(0, 0, 64)), 4, 0, file(65, 7, 9))
	b.now = 46
	l = b.got(t, l, map[int]string{7: "old"}, 7)
	l = b.granted(t, l, 4, 0, file(66, 7, 9))
	b.now = 100
	l = b.got(t, l, map[int]string{7: "new"}, 7)
	b.now = 130
	l = b.granted(t, l, 4, 0, file(5, 3))
	none(t, b.got(t, l, map[int]string{3: "newer"}, 3))
	b.told(t, api.Reply{Data: "newer"})
}

// P23.2: the last block may come late.
func TestLastBlockLate(t *testing.T) {
	b := started(t, 2)
	b.open(t, 4, 0)
	l := b.granted(t, b.ask(t, readCall(0, 0, 64)), 4, 0, file(3, 7))
	b.now = 1000
	none(t, b.got(t, l, map[int]string{7: "abc"}, 7))
	b.told(t, api.Reply{Data: "abc"})
	b.trusts(t)
}

// P23.2: Write and Trunc, and reading what was written.
func TestWrite(t *testing.T) {
	b := started(t, 2)
	b.open(t, 4, 0)
	l := b.granted(t, b.ask(t, writeCall(0, 2, "xyz")), 4, 1, file(4, 7))
	none(t, b.written(t, l, api.Record{Call: b.seq + 1, Inode: 4, Off: 2, Data: "xyz"}))
	b.told(t, api.Reply{})
	if b.seq++; b.Id() != b.seq {
		t.Error(b.Id(), b.seq)
	}
	b.trusts(t, client.Trust{Inode: 4, Own: true})
	none(t, b.got(t, b.ask(t, readCall(0, 0, 64)), map[int]string{7: "abcdef"}, 7))
	b.told(t, api.Reply{Data: "abxyz"})
	b.write(t, 0, 4, 70, "far")
	l = b.ask(t, api.Call{Kind: api.Trunc, Fd: 0, N: 72, Off: 9, Data: "no"})
	none(t, b.written(t, l, api.Record{Call: b.Id(), Inode: 4, Trunc: true, Off: 72}))
	b.told(t, api.Reply{})
	none(t, b.got(t, b.ask(t, readCall(0, 60, 64)), map[int]string{7: "abcdef"}, 7))
	b.told(t, api.Reply{Data: strings.Repeat("\x00", 10) + "fa"})
}

// P23.2: a shared lease does not do for a Write.
func TestWriteNeedsOwn(t *testing.T) {
	b := started(t, 2)
	b.open(t, 4, 0)
	none(t, b.gotNothing(t, b.granted(t, b.ask(t, readCall(0, 0, 1)), 4, 0, file(0))))
	b.told(t, api.Reply{})
	l := b.ask(t, writeCall(0, 0, "x"))
	b.trusts(t)
	l = b.granted(t, l, 4, 1, file(0))
	b.now = 60
	none(t, b.written(t, l, api.Record{Call: b.seq + 1, Inode: 4, Data: "x"}))
	b.told(t, api.Reply{})
	b.trusts(t)
	b.seq = b.Id()
	l = b.ask(t, api.Call{Kind: api.Trunc, Fd: 0, N: 3})
	b.granted(t, l, 4, 1, file(1, 7))
}

// P23.2: a Read under an own lease asks for no other one.
func TestReadUnderOwn(t *testing.T) {
	b := started(t, 2)
	b.open(t, 4, 0)
	l := b.granted(t, b.ask(t, writeCall(0, 0, "x")), 4, 1, file(0))
	none(t, b.written(t, l, api.Record{Call: b.seq + 1, Inode: 4, Data: "x"}))
	b.told(t, api.Reply{})
	none(t, b.gotNothing(t, b.ask(t, readCall(0, 0, 9))))
	b.told(t, api.Reply{Data: "x"})
}

// P23.2: errors of a Grant.
func TestGrantErrors(t *testing.T) {
	b := started(t, 2)
	b.open(t, 4, 0)
	l := b.ask(t, writeCall(0, 0, "x"))
	grant := api.Packet{Op: api.Grant, Inode: 4, Call: api.Call{Flags: 1}}
	for _, e := range []api.Errno{api.ErrAgain, api.ErrQuiet, api.ErrAgain} {
		none(t, b.answer(t, b.question(t, l, grant), api.Packet{Errno: e}))
		b.silent(t)
		b.now += 7
		none(t, b.Tick(b.now))
		b.now++
		l = b.Tick(b.now)
	}
	none(t, b.answer(t, b.question(t, l, grant), api.Packet{Errno: api.ErrSpace}))
	b.told(t, api.Reply{Errno: api.ErrSpace})
	b.trusts(t)
}

// P23.2 and P23.6: a lease is trusted from the first sending on.
func TestTrust(t *testing.T) {
	b := started(t, 2)
	b.open(t, 4, 0)
	b.now = 100
	l := b.ask(t, readCall(0, 0, 1))
	q := b.question(t, l, api.Packet{Op: api.Grant, Inode: 4})
	for _, now := range []int{107, 108, 115, 116} {
		b.now = now
		if l := b.Tick(now); now%8 == 4 {
			b.again(t, l, api.Packet{Op: api.Grant, Inode: 4}, q.Seq)
		} else {
			none(t, l)
		}
	}
	b.now = 120
	none(t, b.gotNothing(t, b.answer(t, q, api.Packet{Inode: 4, Node: file(0)})))
	b.told(t, api.Reply{})
	for now, want := range map[int]int{120: 1, 145: 1, 146: 0, 1000: 0, math.MaxInt: 0} {
		if l := b.Trusts(now); len(l) != want {
			t.Error(now, l)
		}
	}
}

// P23.2: packets are sent again as they are.
func TestTick(t *testing.T) {
	b := started(t, 2)
	l := b.ask(t, api.Call{Kind: api.Mkdir, Path: "/d"})
	q := b.question(t, l, api.Packet{Op: api.Mkdir, Call: api.Call{Path: "/d"}})
	for _, c := range []struct {
		now  int
		sent bool
	}{{0, false}, {7, false}, {8, true}, {8, false}, {15, false}, {20, true}, {27, false}, {28, true}} {
		b.now = c.now
		if l := b.Tick(c.now); c.sent {
			b.again(t, l, api.Packet{Op: api.Mkdir, Call: api.Call{Path: "/d"}}, q.Seq)
		} else {
			none(t, l)
		}
	}
	none(t, b.answer(t, q, api.Packet{}))
	b.told(t, api.Reply{})
	none(t, b.Tick(1000))
}

// P23.2: only the answer to the packet for which the client waits has an effect.
func TestOtherPackets(t *testing.T) {
	b := started(t, 2)
	q := b.question(t, b.ask(t, api.Call{Kind: api.Mkdir, Path: "/d"}), api.Packet{Op: api.Mkdir, Call: api.Call{Path: "/d"}})
	good := api.Packet{Kind: api.RpcTold, Client: 2, Epoch: q.Epoch, Seq: q.Seq, Op: q.Op}
	for i, change := range []func(p *api.Packet){
		func(p *api.Packet) { p.Kind = api.RpcAsk }, func(p *api.Packet) { p.Kind, p.Op = api.VerbTold, 1 }, func(p *api.Packet) { p.Client = 3 }, func(p *api.Packet) { p.Epoch++ }, func(p *api.Packet) { p.Epoch-- },
		func(p *api.Packet) { p.Seq++ }, func(p *api.Packet) { p.Seq-- }, func(p *api.Packet) { p.Op = api.Rmdir }, func(p *api.Packet) { p.Op = api.Hello }, func(p *api.Packet) { p.Kind, p.Op = api.Recall, 0 },
		func(p *api.Packet) { p.Errno, p.Epoch = api.ErrEpoch, 1 },
	} {
		p := good
		change(&p)
		none(t, b.receive(t, p))
		if !b.Busy() {
			t.Error(i)
		}
	}
	data, _ := wire.Put(good)
	data[5]++
	for _, bytes := range [][]byte{nil, data, data[:9], []byte("nothing")} {
		none(t, b.Receive(bytes, 0))
	}
	b.silent(t)
	none(t, b.receive(t, good))
	b.told(t, api.Reply{})
	none(t, b.receive(t, good))
	b.silent(t)
}

// P23.2: an epoch that is over.
func TestStale(t *testing.T) {
	for _, e := range []api.Errno{api.ErrEpoch, api.ErrKey} {
		b := started(t, 2)
		b.open(t, 4, 0)
		none(t, b.gotNothing(t, b.granted(t, b.ask(t, readCall(0, 0, 1)), 4, 0, file(0))))
		b.told(t, api.Reply{})
		call := api.Packet{Op: api.Mkdir, Call: api.Call{Path: "/d"}}
		q := b.question(t, b.ask(t, api.Call{Kind: api.Mkdir, Path: "/d"}), call)
		resume := b.question(t, b.answer(t, q, api.Packet{Errno: e}), api.Packet{Op: api.Resume})
		b.trusts(t)
		l := b.begin(t, resume, 8)
		b.again(t, l, call, q.Seq)
		if b.Id() != q.Seq {
			t.Error(b.Id())
		}
	}
}

// P23.2: a Read begins anew in a new epoch.
func TestStaleRead(t *testing.T) {
	b := started(t, 2)
	b.open(t, 4, 0)
	l := b.granted(t, b.ask(t, readCall(0, 0, 64)), 4, 0, file(65, 7, 9))
	l = b.got(t, l, map[int]string{7: "old"}, 7)
	l = b.answer(t, one(t, l), api.Packet{Errno: api.ErrEpoch})
	l = b.begin(t, b.question(t, l, api.Packet{Op: api.Resume}), 5)
	l = b.granted(t, l, 4, 0, file(3, 9))
	none(t, b.got(t, l, map[int]string{9: "new"}, 9))
	b.told(t, api.Reply{Data: "new"})
}

// P23.2: a Write in a new epoch was either taken over, or is written again with its number.
func TestStaleWrite(t *testing.T) {
	for _, done := range []bool{true, false} {
		for verbs := range 4 {
			b := started(t, 2)
			b.open(t, 4, 0)
			l := b.granted(t, b.ask(t, writeCall(0, 0, "x")), 4, 1, file(0))
			id := b.Id()
			for range verbs {
				l = b.answer(t, one(t, l), api.Packet{})
			}
			l = b.answer(t, one(t, l), api.Packet{Errno: api.ErrEpoch})
			b.seq = id
			resume := b.question(t, l, api.Packet{Op: api.Resume})
			b.epoch, b.vseq = 5, 0
			if done {
				none(t, b.answer(t, resume, api.Packet{At: 5, Wrote: id}))
				b.told(t, api.Reply{})
				continue
			}
			l = b.answer(t, resume, api.Packet{At: 5, Wrote: id - 1})
			l = b.granted(t, l, 4, 1, file(0))
			none(t, b.written(t, l, api.Record{Call: id, Inode: 4, Data: "x"}))
			b.told(t, api.Reply{})
			if b.Id() != id {
				t.Error(b.Id(), id)
			}
		}
	}
}

// P23.2: Wrote means nothing for other calls, nor for a Write without a number.
func TestWroteOfOthers(t *testing.T) {
	b := started(t, 2)
	b.open(t, 4, 0)
	q := b.question(t, b.ask(t, writeCall(0, 0, "x")), api.Packet{Op: api.Grant, Inode: 4, Call: api.Call{Flags: 1}})
	resume := b.question(t, b.answer(t, q, api.Packet{Errno: api.ErrEpoch}), api.Packet{Op: api.Resume})
	b.question(t, b.begin(t, resume, 4), api.Packet{Op: api.Grant, Inode: 4, Call: api.Call{Flags: 1}})
	b.silent(t)
	b = started(t, 2)
	q = b.question(t, b.ask(t, api.Call{Kind: api.Mkdir, Path: "/d"}), api.Packet{Op: api.Mkdir, Call: api.Call{Path: "/d"}})
	resume = b.question(t, b.answer(t, q, api.Packet{Errno: api.ErrEpoch}), api.Packet{Op: api.Resume})
	b.epoch = 4
	b.again(t, b.answer(t, resume, api.Packet{At: 4, Wrote: q.Seq}), api.Packet{Op: api.Mkdir, Call: api.Call{Path: "/d"}}, q.Seq)
}

// P23.2: a full log is cleaned.
func TestClean(t *testing.T) {
	b := started(t, 2)
	b.open(t, 4, 0)
	b.open(t, 5, 1)
	none(t, b.gotNothing(t, b.granted(t, b.ask(t, readCall(1, 0, 1)), 5, 0, file(0))))
	b.told(t, api.Reply{})
	l := b.granted(t, b.ask(t, writeCall(0, 0, big)), 4, 1, file(0))
	none(t, b.written(t, l, api.Record{Call: b.seq + 1, Inode: 4, Data: big}))
	b.told(t, api.Reply{})
	for range 10 {
		b.write(t, 0, 4, 0, big)
	}
	b.write(t, 0, 4, 0, "1234567")
	b.write(t, 0, 4, 0, "1234567")
	if b.log != 1016 {
		t.Fatal(b.log)
	}
	l = b.ask(t, writeCall(0, 0, "x"))
	clean := one(t, l)
	b.again(t, l, api.Packet{Op: api.Clean}, clean.Seq)
	if clean.Seq <= b.seq {
		t.Error(clean.Seq, b.seq)
	}
	b.seq = max(clean.Seq, b.Id())
	l = b.begin(t, clean, 11)
	b.trusts(t, client.Trust{Inode: 5})
	l = b.granted(t, l, 4, 1, file(64, 7))
	none(t, b.written(t, l, api.Record{Call: b.Id(), Inode: 4, Data: "x"}))
	b.told(t, api.Reply{})
	b.trusts(t, client.Trust{Inode: 4, Own: true}, client.Trust{Inode: 5})
}

// P23.2: a record has to leave room for the end, and one record makes a lease go.
func TestCleanInTime(t *testing.T) {
	b := started(t, 2)
	b.open(t, 4, 0)
	b.open(t, 5, 1)
	l := b.granted(t, b.ask(t, writeCall(1, 0, "once")), 5, 1, file(0))
	none(t, b.written(t, l, api.Record{Call: b.seq + 1, Inode: 5, Data: "once"}))
	b.told(t, api.Reply{})
	b.seq++
	l = b.granted(t, b.ask(t, writeCall(0, 0, big)), 4, 1, file(0))
	none(t, b.written(t, l, api.Record{Call: b.seq + 1, Inode: 4, Data: big}))
	b.told(t, api.Reply{})
	for range 10 {
		b.write(t, 0, 4, 0, big)
	}
	if b.log != 992 {
		t.Fatal(b.log)
	}
	clean := one(t, b.ask(t, writeCall(0, 0, "12345678")))
	if clean.Op != api.Clean {
		t.Fatal(clean)
	}
	b.seq = max(clean.Seq, b.Id())
	b.granted(t, b.begin(t, clean, 4), 4, 1, file(64, 7))
	b.trusts(t, client.Trust{Inode: 4, Own: true})
}

// P23.2: an error of a Clean answers the call.
func TestCleanError(t *testing.T) {
	b := started(t, 2)
	b.open(t, 4, 0)
	l := b.granted(t, b.ask(t, writeCall(0, 0, big)), 4, 1, file(0))
	none(t, b.written(t, l, api.Record{Call: b.seq + 1, Inode: 4, Data: big}))
	b.told(t, api.Reply{})
	for range 10 {
		b.write(t, 0, 4, 0, big)
	}
	clean := one(t, b.ask(t, writeCall(0, 0, big)))
	if clean.Op != api.Clean {
		t.Fatal(clean)
	}
	none(t, b.answer(t, clean, api.Packet{Errno: api.ErrArg, At: 3}))
	b.told(t, api.Reply{Errno: api.ErrArg})
}

// P23.2: Recalls.
func TestRecall(t *testing.T) {
	b := started(t, 2)
	for fd := range 4 {
		b.open(t, 4+fd, fd)
		none(t, b.gotNothing(t, b.granted(t, b.ask(t, readCall(fd, 0, 1)), 4+fd, 0, file(0))))
		b.told(t, api.Reply{})
	}
	none(t, b.recall(t, 30))
	q := b.question(t, b.recall(t, 5), api.Packet{Op: api.Give, Inode: 5})
	b.trusts(t, client.Trust{Inode: 4}, client.Trust{Inode: 6}, client.Trust{Inode: 7})
	none(t, b.recall(t, 7))
	none(t, b.recall(t, 6))
	none(t, b.recall(t, 5))
	q = b.question(t, b.answer(t, q, api.Packet{}), api.Packet{Op: api.Give, Inode: 6})
	q = b.question(t, b.answer(t, q, api.Packet{Errno: api.ErrNone}), api.Packet{Op: api.Give, Inode: 7})
	none(t, b.answer(t, q, api.Packet{}))
	b.trusts(t, client.Trust{Inode: 4})
}

// P23.2: what is recalled is given back after the call; what had no lease then is forgotten.
func TestRecallDuringCall(t *testing.T) {
	b := started(t, 2)
	b.open(t, 4, 0)
	b.open(t, 5, 1)
	l := b.ask(t, readCall(0, 0, 1))
	q := b.question(t, l, api.Packet{Op: api.Grant, Inode: 4})
	none(t, b.recall(t, 9))
	none(t, b.recall(t, 4))
	l = b.gotNothing(t, b.answer(t, q, api.Packet{Inode: 4, Node: file(0)}))
	q = b.question(t, l, api.Packet{Op: api.Give, Inode: 4})
	b.told(t, api.Reply{})
	none(t, b.ask(t, readCall(1, 0, 1)))
	if !b.Busy() {
		t.Error("a call waits for the answer of the Give")
	}
	none(t, b.gotNothing(t, b.granted(t, b.answer(t, q, api.Packet{}), 5, 0, file(0))))
	b.told(t, api.Reply{})
	b.open(t, 9, 2)
	none(t, b.gotNothing(t, b.granted(t, b.ask(t, readCall(2, 0, 1)), 9, 0, file(0))))
	b.told(t, api.Reply{})
	b.trusts(t, client.Trust{Inode: 5}, client.Trust{Inode: 9})
}

// P23.2: with the Give an inode is no longer recalled.
func TestRecallOnce(t *testing.T) {
	b := started(t, 2)
	b.open(t, 4, 0)
	none(t, b.gotNothing(t, b.granted(t, b.ask(t, readCall(0, 0, 1)), 4, 0, file(0))))
	b.told(t, api.Reply{})
	q := b.question(t, b.recall(t, 4), api.Packet{Op: api.Give, Inode: 4})
	none(t, b.ask(t, readCall(0, 0, 1)))
	none(t, b.gotNothing(t, b.granted(t, b.answer(t, q, api.Packet{}), 4, 0, file(0))))
	b.told(t, api.Reply{})
	b.trusts(t, client.Trust{Inode: 4})
}

// P23.2: a Recall of a greater inode without a lease is forgotten with the Give of a lesser one.
func TestRecallWithoutLease(t *testing.T) {
	b := started(t, 2)
	b.open(t, 4, 0)
	b.open(t, 9, 1)
	q := b.question(t, b.ask(t, readCall(0, 0, 1)), api.Packet{Op: api.Grant, Inode: 4})
	none(t, b.recall(t, 9))
	none(t, b.recall(t, 4))
	q = b.question(t, b.gotNothing(t, b.answer(t, q, api.Packet{Inode: 4, Node: file(0)})), api.Packet{Op: api.Give, Inode: 4})
	b.told(t, api.Reply{})
	none(t, b.answer(t, q, api.Packet{}))
	none(t, b.gotNothing(t, b.granted(t, b.ask(t, readCall(1, 0, 1)), 9, 0, file(0))))
	b.told(t, api.Reply{})
	b.trusts(t, client.Trust{Inode: 9})
}

// P23.3
func TestTold(t *testing.T) {
	b := started(t, 2)
	b.silent(t)
	if b.Busy() || b.Id() != 0 {
		t.Error(b.Id())
	}
	none(t, b.ask(t, api.Call{Kind: api.Sync}))
	b.told(t, api.Reply{Errno: api.ErrBadFd})
	b.silent(t)
}

// P23.3
func TestTrusts(t *testing.T) {
	b := started(t, 2)
	for fd, inode := range []int{9, 3, 5} {
		b.open(t, inode, fd)
		b.now += 10
		flags := fd % 2
		l := b.ask(t, []api.Call{readCall(fd, 0, 1), writeCall(fd, 0, "x")}[flags])
		l = b.granted(t, l, inode, flags, file(0))
		if flags == 0 {
			none(t, b.gotNothing(t, l))
		} else {
			none(t, b.written(t, l, api.Record{Call: b.seq + 1, Inode: inode, Data: "x"}))
			b.seq++
		}
		b.told(t, api.Reply{})
	}
	b.trusts(t, client.Trust{Inode: 3, Own: true}, client.Trust{Inode: 5}, client.Trust{Inode: 9})
	b.now = 56
	b.trusts(t, client.Trust{Inode: 3, Own: true}, client.Trust{Inode: 5})
	b.now = 66
	b.trusts(t, client.Trust{Inode: 5})
	b.now = 76
	b.trusts(t)
}

// P23.4 and P23.5: whatever comes, one packet at a time, and ascending numbers.
func TestAnything(t *testing.T) {
	seed := uint32(1)
	next := func(n int) int {
		seed = seed*1664525 + 1013904223
		return int(seed>>8) % n
	}
	b := &bench{Client: client.New(2), number: 2}
	l, _ := b.Start(1, 0)
	last := one(t, l)
	questions, calls := last.Seq, map[int]int{}
	for i := range 20000 {
		b.now += next(4)
		var sent []api.Packet
		switch next(6) {
		case 0:
			sent = b.Tick(b.now)
		case 1:
			c := api.Call{Kind: next(15), Path: "/p", Path2: "/q", Flags: next(4), Fd: next(4), Off: next(250), N: next(66), Data: big[:next(60)]}
			sent, _ = b.Ask(c, b.now)
		case 2:
			sent = b.recall(t, next(9))
		default:
			e := []api.Errno{0, 0, 0, 0, 0, 0, api.ErrAgain, api.ErrEpoch, api.ErrKey, api.ErrNone, api.ErrSpace}[next(11)]
			a := api.Packet{Kind: last.Kind + 1, Client: 2, Epoch: last.Epoch, Seq: last.Seq, Op: last.Op, Errno: e}
			if a.Kind == api.VerbTold {
				a.Data = big[:next(65)]
			} else {
				a.At, a.Inode, a.Wrote, a.Node = next(5), next(9), b.Id(), file(next(300), next(140), next(140), next(3))
			}
			sent = b.receive(t, a)
		}
		b.Told()
		if len(sent) > 1 {
			t.Fatal(i, sent)
		}
		if len(sent) == 1 {
			p := one(t, sent)
			if p.Kind == api.RpcAsk && !same(p, last) && p.Seq <= questions && p.Seq != b.Id() {
				t.Fatal(i, "numbers", p, questions)
			}
			if p.Kind == api.RpcAsk {
				questions = max(questions, p.Seq)
				calls[p.Op]++
			}
			last = p
		}
	}
	if len(calls) < 12 {
		t.Error("hardly anything was asked", calls)
	}
}
