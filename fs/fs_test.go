package fs_test

import (
	"math"
	"reflect"
	"slices"
	"strings"
	"testing"

	"commons/api"
	"commons/fs"
	"commons/layout"
	"commons/wire"
)

func does(t *testing.T, f *fs.Fs, l ...api.Step) {
	t.Helper()
	for i, s := range l {
		if e := f.Do(s); e != api.OK {
			t.Fatalf("step %d: %+v: %d", i, s, e)
		}
	}
}

func refused(t *testing.T, f *fs.Fs, l ...api.Step) {
	t.Helper()
	for i, s := range l {
		moment, packets, now := f.Moment(), f.Bag().Len(), f.Clocks().True()
		if e := f.Do(s); e != api.ErrStep {
			t.Errorf("step %d: %+v: %d", i, s, e)
		}
		if f.Moment() != moment || f.Bag().Len() != packets || f.Clocks().True() != now {
			t.Errorf("step %d: %+v: something happened", i, s)
		}
	}
}

func call(node int, c api.Call) api.Step { return api.Step{Op: api.StepCall, Node: node, Call: c} }
func calm(n int) api.Step                { return api.Step{Op: api.StepCalm, N: n} }
func deliver(n int) api.Step             { return api.Step{Op: api.StepDeliver, N: n} }
func crash(node int, picks ...int) api.Step {
	return api.Step{Op: api.StepCrash, Node: node, Picks: picks}
}
func start(node int) api.Step { return api.Step{Op: api.StepStart, Node: node} }

func open(path string) api.Call { return api.Call{Kind: api.Open, Path: path, Flags: 1} }

func write(off int, data string) api.Call {
	return api.Call{Kind: api.Write, Off: off, Data: data}
}

func read(off, n int) api.Call { return api.Call{Kind: api.Read, Off: off, N: n} }

// last is the last event.
func last(t *testing.T, f *fs.Fs) api.Event {
	t.Helper()
	l := f.Events()
	if len(l) == 0 {
		t.Fatal("no event")
	}
	e := l[len(l)-1]
	if e.Told > 0 && (e.Asked > e.Done || e.Done > e.Told) || e.Asked < 1 || e.Number != len(l) {
		t.Errorf("moments %+v", e)
	}
	return e
}

// told checks that the last event is answered.
func told(t *testing.T, f *fs.Fs, want api.Reply) api.Event {
	t.Helper()
	e := last(t, f)
	if e.Told == 0 || !reflect.DeepEqual(e.Reply, want) {
		t.Errorf("%+v instead of %+v", e, want)
	}
	return e
}

// untold checks that the last event is not answered.
func untold(t *testing.T, f *fs.Fs) api.Event {
	t.Helper()
	e := last(t, f)
	if e.Told != 0 {
		t.Errorf("%+v", e)
	}
	return e
}

// packets returns the packets of the bag.
func packets(t *testing.T, f *fs.Fs) []api.Packet {
	t.Helper()
	var l []api.Packet
	for k := range f.Bag().Len() {
		_, data, _ := f.Bag().Take(k, true)
		l = append(l, packet(t, data))
	}
	return l
}

// ready is a system with clients that have epochs, long after its start.
func ready(t *testing.T, n int) *fs.Fs {
	t.Helper()
	f := fs.New(n)
	does(t, f, calm(9))
	return f
}

// P24.1
func TestNew(t *testing.T) {
	for _, n := range []int{0, 9, -1, math.MaxInt, math.MinInt} {
		if fs.New(n) != nil {
			t.Error(n)
		}
	}
	for n := 1; n <= 8; n++ {
		f := fs.New(n)
		if f == nil || f.Moment() != 0 || len(f.Events()) != 0 || f.Bag().Len() != n || f.Clocks().True() != 0 || f.Server() == nil {
			t.Fatal(n)
		}
		for i, p := range packets(t, f) {
			if want := (api.Packet{Kind: api.RpcAsk, Client: i + 1, Op: api.Hello, Seq: 1<<20 + 1}); !reflect.DeepEqual(p, want) {
				t.Error(p)
			}
		}
		if l := f.Bag().To(0); len(l) != n {
			t.Error(l)
		}
		for node := -1; node <= 10; node++ {
			if f.Up(node) != (node >= 0 && node <= n) || (f.Client(node) != nil) != (node >= 1 && node <= n) || len(f.Dropped(node)) != 0 {
				t.Error(n, node)
			}
		}
		if f.Server().Epoch(1) != 1 || f.Server().Volume().Commits() != 8 {
			t.Error("the server", f.Server().Epoch(1))
		}
	}
}

// P24.2
func TestOtherSteps(t *testing.T) {
	f := fs.New(1)
	refused(t, f, api.Step{}, api.Step{Op: 10}, api.Step{Op: -1}, api.Step{Op: math.MaxInt}, api.Step{Op: math.MinInt})
}

// P24.2: StepPass.
func TestPass(t *testing.T) {
	f := fs.New(2)
	pass := func(n int, skew ...int) api.Step { return api.Step{Op: api.StepPass, N: n, Skew: skew} }
	refused(t, f, pass(0), pass(65), pass(-1), pass(1, 9), pass(1, 0, 0, 0, 0), pass(math.MaxInt))
	does(t, f, pass(7, 0, 1, -1))
	if f.Clocks().True() != 7 || f.Clocks().Show(0) != 7 || f.Clocks().Show(1) != 7 || f.Clocks().Show(2) != 6 || f.Bag().Len() != 2 {
		t.Error(f.Clocks().Show(1), f.Bag().Len())
	}
	does(t, f, pass(1, 0, 1))
	if l := packets(t, f); len(l) != 3 || l[2].Client != 1 {
		t.Error("by its own clock each client sends again", l)
	}
	does(t, f, crash(1), pass(8))
	if l := packets(t, f); len(l) != 4 || l[3].Client != 2 {
		t.Error("a client that is down handles no time", l)
	}
}

// P24.2: time at the server.
func TestServersTime(t *testing.T) {
	f := ready(t, 2)
	does(t, f, call(1, open("/a")), calm(1), call(1, write(0, "x")), calm(2))
	told(t, f, api.Reply{})
	epoch, moment := f.Server().Epoch(1), f.Moment()
	does(t, f, api.Step{Op: api.StepPass, N: 64}, api.Step{Op: api.StepPass, N: 8})
	if f.Server().Epoch(1) != epoch+1 || len(f.Server().Leases().All()) != 0 {
		t.Error("the grant is not over", f.Server().Epoch(1), f.Server().Leases().All())
	}
	if f.Moment() != moment+1 {
		t.Error("the record was taken over", f.Moment(), moment)
	}
}

// P24.2: a server that is down handles no time.
func TestNoTimeAtServer(t *testing.T) {
	f := ready(t, 1)
	does(t, f, call(1, open("/a")), calm(1), call(1, write(0, "x")), calm(2), crash(0))
	epoch, moment := f.Server().Epoch(1), f.Moment()
	does(t, f, api.Step{Op: api.StepPass, N: 64}, api.Step{Op: api.StepPass, N: 64})
	if f.Server().Epoch(1) != epoch || f.Moment() != moment || len(f.Server().Leases().All()) != 1 {
		t.Error(f.Server().Epoch(1), epoch)
	}
}

// P24.2: StepDeliver and StepDrop.
func TestDeliverAndDrop(t *testing.T) {
	f := fs.New(4)
	drop := func(n int) api.Step { return api.Step{Op: api.StepDrop, N: n} }
	clients := func(want ...int) {
		t.Helper()
		var l []int
		for _, p := range packets(t, f) {
			l = append(l, p.Client)
		}
		if !slices.Equal(l, want) {
			t.Error(l, "instead of", want)
		}
	}
	does(t, f, drop(5))
	clients(1, 3, 4)
	does(t, f, drop(-1))
	clients(3, 4)
	does(t, f, drop(-4))
	clients(3)
	does(t, f, api.Step{Op: api.StepDeliver, N: math.MinInt, Stay: true})
	clients(3, 3)
	if l := packets(t, f); l[0].Kind != api.RpcAsk || l[1].Kind != api.RpcTold || l[1].At != 2 {
		t.Error(l)
	}
	does(t, f, deliver(2))
	clients(3, 3)
	if l := packets(t, f); l[0].Kind != api.RpcTold || !reflect.DeepEqual(l[0], l[1]) {
		t.Error("the same answer", l)
	}
	does(t, f, deliver(0), deliver(-1))
	refused(t, f, deliver(0), deliver(7), drop(0), drop(-3))
}

// P24.2: to a node that is down a packet goes for nothing.
func TestDeliverToNobody(t *testing.T) {
	f := fs.New(2)
	does(t, f, crash(0))
	if f.Bag().Len() != 0 || f.Up(0) {
		t.Error(f.Bag().Len())
	}
	does(t, f, calm(1))
	if f.Bag().Len() != 0 {
		t.Error("what was sent again is gone", f.Bag().Len())
	}
	does(t, f, api.Step{Op: api.StepPass, N: 8})
	if f.Bag().Len() != 2 {
		t.Error(f.Bag().Len())
	}
	does(t, f, deliver(0), deliver(0))
	refused(t, f, deliver(0))
}

// P24.2: StepInject.
func TestInject(t *testing.T) {
	f := fs.New(2)
	_, hello, _ := f.Bag().Take(0, false)
	inject := func(node int, data []byte) api.Step {
		return api.Step{Op: api.StepInject, Node: node, Data: data}
	}
	refused(t, f, inject(-1, hello), inject(3, hello), inject(math.MaxInt, nil), inject(math.MinInt, nil))
	does(t, f, inject(0, nil), inject(1, hello), inject(0, []byte("nothing")))
	if f.Bag().Len() != 1 || f.Moment() != 0 {
		t.Error(f.Bag().Len(), f.Moment())
	}
	data := slices.Clone(hello)
	does(t, f, inject(0, data))
	data[0] = 99
	l := packets(t, f)
	if len(l) != 2 || l[1].Kind != api.RpcTold || l[1].Client != 1 || f.Moment() != 1 {
		t.Error(l)
	}
	does(t, f, crash(0), inject(0, hello))
	if f.Bag().Len() != 1 {
		t.Error("a server that is down", f.Bag().Len())
	}
	recall, _ := wire.Put(api.Packet{Kind: api.Recall, Client: 2, Inode: 4})
	does(t, f, inject(2, recall))
	forged, _ := wire.Put(api.Packet{Kind: api.RpcAsk, Client: 8, Op: api.Hello, Seq: 5})
	next, _ := wire.Put(api.Packet{Kind: api.RpcAsk, Client: 3, Op: api.Hello, Seq: 5})
	does(t, f, start(0), inject(0, forged), inject(0, next), calm(2))
	if f.Bag().Len() != 0 || len(f.Dropped(3)) != 0 {
		t.Error("packets to nobody", f.Bag().Len())
	}
}

// P24.2: StepCall, answered immediately.
func TestCall(t *testing.T) {
	f := fs.New(2)
	refused(t, f, call(0, open("/a")), call(3, open("/a")), call(-1, open("/a")), call(math.MaxInt, open("/a")))
	does(t, f, call(2, api.Call{Kind: api.Sync}))
	if e := untold(t, f); !reflect.DeepEqual(e, api.Event{Client: 2, Number: 1, Call: api.Call{Kind: api.Sync}, Asked: 1}) {
		t.Error(e)
	}
	refused(t, f, call(2, open("/a")))
	does(t, f, deliver(0), deliver(0), deliver(0), deliver(0))
	if e := told(t, f, api.Reply{Errno: api.ErrBadFd}); e.Asked != 1 || e.Done != 4 || e.Told != 5 {
		t.Error(e)
	}
	does(t, f, call(2, api.Call{Kind: 99}))
	if e := told(t, f, api.Reply{Errno: api.ErrInval}); e.Number != 2 || e.Asked != 6 || e.Done != 7 || e.Told != 8 || f.Moment() != 8 {
		t.Error(e)
	}
	if f.Client(2).Busy() {
		t.Error("busy")
	}
	if r, ok := f.Client(2).Told(); ok {
		t.Error("the answer was not fetched", r)
	}
	does(t, f, crash(1))
	refused(t, f, call(1, open("/a")))
}

// P24.2 and P24.3: the moments of a question.
func TestMomentsOfQuestion(t *testing.T) {
	f := fs.New(1)
	does(t, f, deliver(0), deliver(0))
	if !slices.Equal(f.Dropped(1), []int{1}) || f.Moment() != 1 {
		t.Error(f.Dropped(1), f.Moment())
	}
	does(t, f, call(1, open("/a")))
	if e := untold(t, f); e.Asked != 2 || e.Done != 0 {
		t.Error(e)
	}
	does(t, f, api.Step{Op: api.StepDeliver, Stay: true})
	if e := untold(t, f); e.Done != 3 || !reflect.DeepEqual(e.Reply, api.Reply{}) {
		t.Error(e)
	}
	does(t, f, deliver(0))
	if e := untold(t, f); e.Done != 3 || f.Moment() != 3 {
		t.Error(e, f.Moment())
	}
	does(t, f, deliver(0))
	if e := told(t, f, api.Reply{}); e.Done != 3 || e.Told != 4 {
		t.Error(e)
	}
	does(t, f, deliver(0), call(1, api.Call{Kind: api.Mkdir, Path: "/a"}), deliver(0))
	if e := untold(t, f); e.Done != 6 || !reflect.DeepEqual(e.Reply, api.Reply{Errno: api.ErrExist}) {
		t.Error("before the answer there is its error alone", e)
	}
	does(t, f, deliver(0))
	told(t, f, api.Reply{Errno: api.ErrExist})
}

// P24.2: the example of the chapter.
func TestExample(t *testing.T) {
	f := fs.New(1)
	does(t, f, calm(2), call(1, open("/a")), calm(3))
	told(t, f, api.Reply{})
}

// P24.3: a List or a Stat that is executed again takes effect again; a Mkdir is executed once.
func TestAgain(t *testing.T) {
	for kind, path := range map[int]string{api.List: "/", api.Stat: "/", api.Mkdir: "/x"} {
		f := ready(t, 2)
		does(t, f, call(1, api.Call{Kind: kind, Path: path}), deliver(0))
		first := untold(t, f).Done
		if first == 0 {
			t.Fatal("no effect")
		}
		does(t, f, api.Step{Op: api.StepDrop}, crash(0), start(0))
		does(t, f, call(2, api.Call{Kind: api.Mkdir, Path: "/d"}), calm(6))
		e, other := f.Events()[0], f.Events()[1]
		if e.Told == 0 || e.Reply.Errno != api.OK {
			t.Error(kind, e)
		}
		if once := kind == api.Mkdir; once && e.Done != first || !once && e.Done < other.Done {
			t.Error(kind, e, other)
		}
	}
}

// P24.3: a Get concerns a Read alone.
func TestGetDuringOtherCall(t *testing.T) {
	f := ready(t, 1)
	does(t, f, call(1, api.Call{Kind: api.Mkdir, Path: "/d"}))
	p, _ := layout.Find(layout.Logs, 1)
	get, _ := wire.Put(api.Packet{Kind: api.VerbAsk, Client: 1, Epoch: f.Server().Epoch(1), Seq: 1, Op: api.Get, At: p.At, N: 8})
	moment := f.Moment()
	does(t, f, api.Step{Op: api.StepInject, Data: get})
	if e := untold(t, f); e.Done != 0 || f.Moment() != moment+1 {
		t.Error(e, f.Moment())
	}
}

// P24.3: a Read takes effect with its last Get.
func TestRead(t *testing.T) {
	f := ready(t, 1)
	does(t, f, call(1, open("/a")), calm(1), call(1, write(0, strings.Repeat("x", 64))), calm(1), call(1, write(64, "y")), calm(1))
	told(t, f, api.Reply{})
	does(t, f, calm(9), call(1, read(60, 9)))
	var dones []int
	for range 30 {
		f.Do(deliver(0))
		dones = append(dones, last(t, f).Done)
	}
	e := told(t, f, api.Reply{Data: "xxxxy"})
	if dones = slices.Compact(dones); !slices.Contains(dones, e.Done) || len(slices.DeleteFunc(dones, func(d int) bool { return d == 0 })) < 2 {
		t.Error(dones, e)
	}
}

// P24.3: a Get after a Read was answered does not concern it.
func TestGetAfterRead(t *testing.T) {
	f := ready(t, 1)
	does(t, f, call(1, open("/a")), calm(1), call(1, read(0, 9)), calm(1))
	before := told(t, f, api.Reply{})
	p, _ := layout.Find(layout.Logs, 1)
	get, _ := wire.Put(api.Packet{Kind: api.VerbAsk, Client: 1, Epoch: f.Server().Epoch(1), Seq: 2, Op: api.Get, At: p.At, N: 8})
	moment := f.Moment()
	does(t, f, api.Step{Op: api.StepInject, Data: get})
	if e := last(t, f); e.Done != before.Done || f.Moment() != moment+1 {
		t.Error(e, f.Moment())
	}
}

// P24.3: a Trunc is undone like a Write.
func TestTruncAndCrash(t *testing.T) {
	f := ready(t, 1)
	does(t, f, call(1, open("/a")), calm(1), call(1, api.Call{Kind: api.Trunc, N: 5}))
	for i := 0; untold(t, f).Done == 0 && i < 50; i++ {
		does(t, f, deliver(0))
	}
	if untold(t, f).Done == 0 {
		t.Fatal("no effect")
	}
	does(t, f, crash(0))
	if e := untold(t, f); e.Done != 0 {
		t.Error("undone", e)
	}
}

// visible returns a system in which a Write's record is in the log, and its end is stored, but not flushed.
func visible(t *testing.T) *fs.Fs {
	t.Helper()
	f := ready(t, 1)
	does(t, f, call(1, open("/a")), calm(1), call(1, write(0, "data")))
	for i := 0; untold(t, f).Done == 0; i++ {
		if i > 50 {
			t.Fatal("no effect")
		}
		does(t, f, deliver(0))
	}
	return f
}

func bytesOf(f *fs.Fs, inode int) string {
	s, _ := f.Server().Volume().Files().Bytes(inode)
	return s
}

// P24.3: a Write takes effect as soon as it is visible, and not if a crash undoes it.
func TestWriteAndCrash(t *testing.T) {
	f := visible(t)
	first := last(t, f).Done
	does(t, f, crash(0))
	if e := untold(t, f); e.Done != 0 {
		t.Error("undone", e)
	}
	does(t, f, start(0))
	if untold(t, f).Done != 0 || bytesOf(f, 2) != "" {
		t.Error("lost", last(t, f))
	}
	does(t, f, calm(12))
	if e := told(t, f, api.Reply{}); e.Done <= first {
		t.Error("written again", e)
	}
	f.Server().Volume().Take(1)
	if s := bytesOf(f, 2); s != "data" {
		t.Errorf("%q", s)
	}
}

// P24.3: what persisted by itself took effect in its first moment.
func TestWriteAndEvict(t *testing.T) {
	f := visible(t)
	first := last(t, f).Done
	p, _ := layout.Find(layout.Logs, 1)
	does(t, f, api.Step{Op: api.StepEvict, N: p.At / 64}, crash(0))
	if e := untold(t, f); e.Done != 0 {
		t.Error(e)
	}
	does(t, f, start(0))
	if e := untold(t, f); e.Done != first || bytesOf(f, 2) != "data" {
		t.Error("taken over", e, first, bytesOf(f, 2))
	}
	does(t, f, crash(0), start(0), calm(12))
	if e := told(t, f, api.Reply{}); e.Done != first {
		t.Error(e)
	}
	if s := bytesOf(f, 2); s != "data" {
		t.Errorf("%q", s)
	}
}

// P24.2: the picks of a crash.
func TestCrashPicks(t *testing.T) {
	for pick, want := range []string{"", "data"} {
		f := visible(t)
		does(t, f, crash(0, pick), start(0))
		if s := bytesOf(f, 2); s != want {
			t.Errorf("%d %q", pick, s)
		}
	}
}

// P24.2: a client that lost its power.
func TestClientCrash(t *testing.T) {
	f := visible(t)
	first := last(t, f).Done
	f.Do(deliver(0))
	does(t, f, crash(1))
	if len(f.Bag().To(1)) != 0 || f.Up(1) || f.Client(1).Busy() || f.Client(1).Id() != 0 {
		t.Error("packets to it", f.Bag().To(1))
	}
	refused(t, f, crash(1), call(1, open("/b")))
	does(t, f, calm(1))
	does(t, f, start(1))
	refused(t, f, start(1))
	if l := packets(t, f); len(l) != 1 || l[0].Seq != 2<<20+1 || l[0].Op != api.Hello {
		t.Error(l)
	}
	does(t, f, calm(2))
	e := untold(t, f)
	if e.Done != first || len(f.Dropped(1)) != 2 || f.Dropped(1)[1] <= first || bytesOf(f, 2) != "data" {
		t.Error(e, f.Dropped(1), bytesOf(f, 2))
	}
	does(t, f, call(1, api.Call{Kind: api.Sync}))
	told(t, f, api.Reply{Errno: api.ErrBadFd})
	f.Dropped(1)[0] = 77
	if f.Dropped(1)[0] == 77 {
		t.Error("shared")
	}
}

// P24.2: StepCrash and StepStart.
func TestCrashAndStart(t *testing.T) {
	f := ready(t, 2)
	for _, node := range []int{-1, 3, 9, math.MaxInt, math.MinInt} {
		refused(t, f, crash(node), start(node))
	}
	for node := range 3 {
		refused(t, f, start(node))
		does(t, f, crash(node))
		refused(t, f, crash(node))
		if f.Up(node) {
			t.Error(node)
		}
	}
	old := f.Server()
	if old == nil {
		t.Fatal("the last server")
	}
	for node := range 3 {
		does(t, f, start(node))
		refused(t, f, start(node))
		if !f.Up(node) {
			t.Error(node)
		}
	}
	if f.Server() == old {
		t.Error("the same server")
	}
	does(t, f, call(1, open("/a")), calm(3))
	told(t, f, api.Reply{})
}

// P24.2: the server starts at what its clock shows.
func TestStartIsQuiet(t *testing.T) {
	f := ready(t, 1)
	does(t, f, call(1, open("/a")), calm(1), crash(0), start(0), calm(3), call(1, read(0, 1)), calm(4))
	untold(t, f)
	does(t, f, calm(4))
	told(t, f, api.Reply{})
}

// P24.2: a server that cannot start stays down.
func TestStartFails(t *testing.T) {
	f := ready(t, 1)
	v := f.Server().Volume()
	s, _ := v.Slot(1)
	s.Epoch = api.MaxEpoch
	if v.SetSlot(1, s) != api.OK || v.Commit() != api.OK {
		t.Fatal("slot")
	}
	does(t, f, crash(0))
	if e := f.Do(start(0)); e != api.ErrStep || f.Up(0) {
		t.Error(e)
	}
}

// P24.2: StepEvict.
func TestEvict(t *testing.T) {
	f := fs.New(1)
	evict := func(n int) api.Step { return api.Step{Op: api.StepEvict, N: n} }
	does(t, f, evict(0), evict(361))
	refused(t, f, evict(-1), evict(362), evict(math.MaxInt), evict(math.MinInt))
}

// P24.2: StepCalm.
func TestCalm(t *testing.T) {
	f := fs.New(3)
	refused(t, f, calm(0), calm(65), calm(-1), calm(math.MaxInt))
	does(t, f, calm(1))
	if f.Clocks().True() != 8 || f.Bag().Len() != 0 || f.Clocks().Show(3) != 8 {
		t.Error(f.Clocks().True(), f.Bag().Len())
	}
	does(t, f, calm(64))
	if f.Clocks().True() != 8+512 {
		t.Error(f.Clocks().True())
	}
	for c := 1; c <= 3; c++ {
		if len(f.Dropped(c)) != 1 {
			t.Error(c, f.Dropped(c))
		}
	}
}

// P24.3: Events are new memory.
func TestEventsAreNew(t *testing.T) {
	f := ready(t, 1)
	does(t, f, call(1, open("/a")), calm(1), call(1, api.Call{Kind: api.List, Path: "/"}), calm(1))
	l := f.Events()
	l[1].Reply.Names[0], l[0].Client = "changed", 9
	if l := f.Events(); l[1].Reply.Names[0] != "a" || l[0].Client != 1 {
		t.Error(l)
	}
}

// The examples 1 and 2 of the whole: a lease moves from one client to the other.
func TestTwoClients(t *testing.T) {
	f := ready(t, 2)
	does(t, f, call(1, open("/a")), calm(1), call(2, open("/a")), calm(1))
	told(t, f, api.Reply{})
	does(t, f, call(1, write(2, "hello")), calm(2))
	told(t, f, api.Reply{})
	if l := f.Client(1).Trusts(f.Clocks().Show(1)); len(l) != 1 || !l[0].Own {
		t.Error(l)
	}
	does(t, f, call(2, read(0, 64)), calm(5))
	told(t, f, api.Reply{Data: "\x00\x00hello"})
	if a, b := f.Client(1).Trusts(f.Clocks().Show(1)), f.Client(2).Trusts(f.Clocks().Show(2)); len(a) != 0 || len(b) != 1 || b[0].Own {
		t.Error(a, b)
	}
}

// The example 7 of the whole: a file that is open without a name.
func TestUnlinkOpenFile(t *testing.T) {
	f := ready(t, 2)
	does(t, f, call(1, open("/a")), calm(1), call(1, write(0, "x")), calm(2), call(2, api.Call{Kind: api.Unlink, Path: "/a"}), calm(1))
	told(t, f, api.Reply{})
	does(t, f, call(1, read(0, 9)), calm(2))
	told(t, f, api.Reply{Data: "x"})
	does(t, f, call(1, api.Call{Kind: api.Close}), calm(1))
	told(t, f, api.Reply{})
	if x, e := f.Server().Volume().Meta().Inode(2); x != (api.Inode{}) || e != api.OK {
		t.Error(x, e)
	}
}

// The example 6 of the whole: an old Put changes nothing.
func TestOldPut(t *testing.T) {
	f := ready(t, 1)
	does(t, f, call(1, open("/a")), calm(1), call(1, write(0, "old")))
	var old []byte
	for i := 0; old == nil && i < 50; i++ {
		for k := range f.Bag().Len() {
			_, data, _ := f.Bag().Take(k, true)
			if p, _ := wire.Read(data); p.Kind == api.VerbAsk && p.Op == api.Put {
				old = data
			}
		}
		f.Do(deliver(0))
	}
	does(t, f, calm(12), crash(1), start(1), calm(3))
	dirty := f.Server().Epoch(1)
	p, _ := layout.Find(layout.Logs, 1)
	before, _ := f.Server().Volume().Load(p.At, p.Size)
	does(t, f, api.Step{Op: api.StepInject, Node: 0, Data: old})
	after, _ := f.Server().Volume().Load(p.At, p.Size)
	l := packets(t, f)
	if old == nil || !slices.Equal(before, after) || len(l) != 1 || l[0].Errno != api.ErrEpoch || f.Server().Epoch(1) != dirty {
		t.Error(l)
	}
}

// P24.5: whatever steps there are, each one ends, and never with anything but OK or ErrStep.
func TestAnySteps(t *testing.T) {
	seed := uint32(1)
	next := func(n int) int {
		seed = seed*1664525 + 1013904223
		return int(seed>>8) % n
	}
	odd := []int{0, 1, 2, 3, 8, 64, 65, 200, -1, -2, math.MaxInt, math.MinInt}
	pick := func() int { return odd[next(len(odd))] }
	for range 30 {
		f := fs.New(1 + next(3))
		for range 300 {
			s := api.Step{Op: next(11), Node: pick(), N: pick(), Stay: next(2) == 0, Call: api.Call{Kind: next(15), Path: "/a", Path2: strings.Repeat("/b", next(70)), Flags: pick(), Fd: pick(), Off: pick(), N: pick(), Data: strings.Repeat("d", next(70))}}
			for range next(4) {
				s.Skew, s.Picks, s.Data = append(s.Skew, next(4)-2), append(s.Picks, pick()), append(s.Data, byte(next(256)))
			}
			if e := f.Do(s); e != api.OK && e != api.ErrStep {
				t.Fatal(s, e)
			}
		}
		for _, e := range f.Events() {
			if e.Told > 0 && (e.Asked > e.Done || e.Done > e.Told) || e.Asked < 1 {
				t.Fatal(e)
			}
		}
	}
}

// packet returns the packet that bytes are.
func packet(t *testing.T, data []byte) api.Packet {
	t.Helper()
	p, e := wire.Read(data)
	if e != api.OK {
		t.Fatal("not a packet", data)
	}
	return p
}
