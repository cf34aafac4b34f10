package audit_test

import (
	"math"
	"testing"

	"commons/api"
	"commons/audit"
	"commons/posix"
)

func open(path string) api.Call { return api.Call{Kind: api.Open, Path: path, Flags: 1} }

func write(off int, data string) api.Call {
	return api.Call{Kind: api.Write, Off: off, Data: data}
}

func read(off, n int) api.Call { return api.Call{Kind: api.Read, Off: off, N: n} }

// at is an event that was asked just before it took effect, and answered just after.
func at(number, client, done int, c api.Call, r api.Reply) api.Event {
	return api.Event{Number: number, Client: client, Call: c, Asked: done, Done: done, Told: done, Reply: r}
}

func finds(t *testing.T, want int, l []api.Event, dropped ...[]int) *posix.Fs {
	t.Helper()
	f, bad := audit.Run(l, dropped)
	if bad != want || f == nil {
		t.Errorf("%d instead of %d", bad, want)
	}
	return f
}

// after is the file system behind some calls.
func after(client int, l ...api.Call) *posix.Fs {
	f := posix.New()
	for _, c := range l {
		f.Do(client, c)
	}
	return f
}

func same(t *testing.T, f, g *posix.Fs) {
	t.Helper()
	if !f.Same(g) {
		t.Error("not the same file system")
	}
}

var opened = api.Event{Client: 1, Number: 7, Call: open("/a"), Asked: 1, Done: 2, Told: 3}

// P25.1: the examples.
func TestExamples(t *testing.T) {
	same(t, finds(t, 0, nil), posix.New())
	same(t, finds(t, 0, []api.Event{opened}), after(1, open("/a")))
	wrong := opened
	wrong.Reply.Fd = 1
	same(t, finds(t, 7, []api.Event{wrong}), after(1, open("/a")))
	l := []api.Event{opened, at(8, 1, 4, write(0, "x"), api.Reply{}), at(9, 1, 6, read(0, 9), api.Reply{Data: "x"})}
	finds(t, 0, l, nil, []int{1})
	finds(t, 0, l, nil, []int{7})
	finds(t, 9, l, nil, []int{5})
}

// P25.1: every field of a reply.
func TestReplies(t *testing.T) {
	list := at(2, 1, 9, api.Call{Kind: api.List, Path: "/"}, api.Reply{Names: []string{"a"}})
	finds(t, 0, []api.Event{opened, list})
	for _, r := range []api.Reply{
		{}, {Names: []string{"b"}}, {Names: []string{"a", "a"}}, {Names: []string{"a"}, Fd: 1}, {Names: []string{"a"}, Data: "x"}, {Names: []string{"a"}, Errno: api.ErrNone}, {Names: []string{"a"}, Info: api.Info{Kind: 1}},
	} {
		list.Reply = r
		finds(t, 2, []api.Event{opened, list})
	}
	stat := at(3, 1, 9, api.Call{Kind: api.Stat, Path: "/a"}, api.Reply{Info: api.Info{Kind: 1, Links: 1}})
	finds(t, 0, []api.Event{opened, stat})
	stat.Reply.Info.Size = 1
	finds(t, 3, []api.Event{opened, stat})
}

// P25.1: the moments of an event that is answered.
func TestMoments(t *testing.T) {
	for i, c := range []struct{ asked, done, told, want int }{
		{1, 2, 3, 0}, {2, 2, 2, 0}, {3, 2, 4, 7}, {1, 4, 3, 7}, {5, 2, 1, 7}, {0, 2, 2, 0}, {-9, 2, 3, 0},
		{3, 2, 0, 0}, {9, 2, -1, 0}, {1, 0, 3, 0}, {5, -2, 1, 0},
	} {
		e := opened
		e.Asked, e.Done, e.Told = c.asked, c.done, c.told
		f, bad := audit.Run([]api.Event{e}, nil)
		if bad != c.want {
			t.Error(i, bad)
		}
		if g := after(1, open("/a")); f.Same(g) != (c.done > 0) {
			t.Error(i, "executed")
		}
	}
}

// P25.1: the order is that of the moments.
func TestOrder(t *testing.T) {
	mkdir := func(number, done int, path string) api.Event {
		return at(number, 1, done, api.Call{Kind: api.Mkdir, Path: path}, api.Reply{})
	}
	finds(t, 0, []api.Event{mkdir(1, 9, "/d/e"), mkdir(2, 8, "/d")})
	finds(t, 1, []api.Event{mkdir(1, 8, "/d/e"), mkdir(2, 9, "/d")})
	finds(t, 0, []api.Event{mkdir(1, 9, "/d"), mkdir(2, 9, "/d/e")})
	finds(t, 2, []api.Event{mkdir(2, 9, "/d/e"), mkdir(1, 9, "/d")})
	finds(t, 3, []api.Event{mkdir(1, 5, "/d"), mkdir(4, 9, "/x/y"), mkdir(3, 8, "/x/y"), mkdir(5, 10, "/x/y")})
	finds(t, 0, []api.Event{mkdir(1, math.MaxInt, "/d/e"), mkdir(2, 1, "/d"), mkdir(3, math.MinInt, "/x/y")})
}

// P25.1: removals of descriptors.
func TestRemovals(t *testing.T) {
	l := []api.Event{opened, at(2, 2, 4, open("/a"), api.Reply{}), at(3, 1, 8, read(0, 1), api.Reply{}), at(4, 2, 8, read(0, 1), api.Reply{})}
	finds(t, 0, l)
	finds(t, 0, l, []int{5}, nil, nil, []int{5})
	finds(t, 3, l, nil, []int{5})
	finds(t, 4, l, nil, nil, []int{5})
	finds(t, 3, l, nil, []int{8}, []int{8})
	finds(t, 4, l, nil, []int{1, 9}, []int{3, 8})
	finds(t, 0, l, nil, []int{9, 2, 0, -3}, []int{1, 3, -1})
	finds(t, 3, l, nil, []int{9, 2, 7}, nil)
	finds(t, 0, l, nil, nil, nil, nil, nil, nil, nil, nil, nil, []int{5}, []int{6})
	same(t, finds(t, 0, []api.Event{opened}, nil, []int{3}), after(2, open("/a"), api.Call{Kind: api.Close}))
}

// P25.1: events that are not answered, or not for lack of room.
func TestNotExecuted(t *testing.T) {
	e := opened
	e.Reply = api.Reply{Errno: api.ErrSpace}
	same(t, finds(t, 0, []api.Event{e}), posix.New())
	e.Told = 1
	same(t, finds(t, 7, []api.Event{e}), posix.New())
	e.Told = 0
	same(t, finds(t, 0, []api.Event{e}), posix.New())
	e.Reply.Errno = api.ErrNone
	same(t, finds(t, 0, []api.Event{e}), posix.New())
	e.Reply = api.Reply{}
	same(t, finds(t, 0, []api.Event{e}), after(1, open("/a")))
	e.Done = 0
	same(t, finds(t, 0, []api.Event{e}), posix.New())
	e = opened
	e.Reply = api.Reply{Errno: api.ErrNone}
	same(t, finds(t, 7, []api.Event{e}), after(1, open("/a")))
}

// P25.1: an event that does not fit is executed all the same, and the first one counts.
func TestFirstThatDoesNotFit(t *testing.T) {
	a, b := opened, at(9, 2, 5, open("/a"), api.Reply{Fd: 3})
	a.Reply.Fd = 5
	f := finds(t, 7, []api.Event{b, a})
	same(t, finds(t, 9, []api.Event{b, opened}), f)
	g := after(1, open("/a"))
	g.Do(2, open("/a"))
	same(t, f, g)
}

// P25.1 and R4: whatever comes in.
func TestAnything(t *testing.T) {
	l := []api.Event{{}, {Client: 99, Number: 5, Done: 1, Told: 1, Reply: api.Reply{Errno: api.ErrArg}}, {Client: 1, Number: 6, Call: api.Call{Kind: 99}, Done: 2, Told: 3, Reply: api.Reply{Errno: api.ErrInval}}, {Done: math.MaxInt, Told: math.MaxInt, Number: 8}}
	dropped := [][]int{{4, 4}, {math.MaxInt, math.MinInt}}
	finds(t, 8, l, dropped...)
	if l[0].Number != 0 || l[3].Number != 8 || dropped[1][0] != math.MaxInt || dropped[0][1] != 4 {
		t.Error("the arguments were changed")
	}
}
