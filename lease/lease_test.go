package lease_test

import (
	"math"
	"slices"
	"testing"

	"commons/api"
	"commons/lease"
)

const (
	own    = true
	shared = false
)

func asks(t *testing.T, l *lease.Table, now, client, inode int, own bool, want api.Errno, who ...int) {
	t.Helper()
	if got, e := l.Ask(now, client, inode, own); e != want || !slices.Equal(got, who) {
		t.Errorf("at %d client %d: %v %d instead of %v %d", now, client, got, e, who, want)
	}
}

func has(t *testing.T, l *lease.Table, want ...lease.Held) {
	t.Helper()
	if got := l.All(); !slices.Equal(got, want) {
		t.Errorf("%v instead of %v", got, want)
	}
}

// P19.1
func TestNew(t *testing.T) {
	l := lease.New()
	has(t, l)
	if h, ok := l.Find(1, 1); ok || h != (lease.Held{}) || len(l.Over(math.MaxInt)) != 0 {
		t.Error(h)
	}
}

// P19.1
func TestAskErrors(t *testing.T) {
	l := lease.New()
	for _, c := range [][3]int{
		{-1, 1, 1}, {1<<40 + 1, 1, 1}, {0, 0, 1}, {0, 9, 1}, {0, -1, 1}, {0, 1, 0}, {0, 1, 33}, {0, 1, -1},
		{math.MaxInt, 1, 1}, {math.MinInt, 1, 1}, {0, math.MaxInt, 1}, {0, 1, math.MinInt},
	} {
		asks(t, l, c[0], c[1], c[2], own, api.ErrArg)
	}
	has(t, l)
	asks(t, l, 1<<40, 8, 32, own, api.OK)
	asks(t, l, 0, 1, 1, shared, api.OK)
	has(t, l, lease.Held{Client: 1, Inode: 1, Until: 64}, lease.Held{Client: 8, Inode: 32, Own: true, Until: 1<<40 + 64})
}

// P19.1: the example of the chapter.
func TestExample(t *testing.T) {
	l := lease.New()
	asks(t, l, 0, 1, 2, own, api.OK)
	asks(t, l, 0, 2, 2, shared, api.ErrAgain, 1)
	if e := l.Give(1, 2); e != api.OK {
		t.Error(e)
	}
	asks(t, l, 0, 3, 2, own, api.ErrAgain)
	asks(t, l, 0, 2, 2, shared, api.OK)
	has(t, l, lease.Held{Client: 2, Inode: 2, Until: 64})
}

// P19.1: which requests conflict.
func TestConflicts(t *testing.T) {
	l := lease.New()
	asks(t, l, 5, 3, 2, shared, api.OK)
	asks(t, l, 5, 1, 2, shared, api.OK)
	asks(t, l, 5, 2, 2, shared, api.OK)
	asks(t, l, 6, 1, 2, own, api.ErrAgain, 2, 3)
	asks(t, l, 6, 4, 2, own, api.ErrAgain, 1, 2, 3)
	asks(t, l, 6, 4, 2, shared, api.ErrAgain)
	asks(t, l, 6, 4, 3, own, api.OK)
	asks(t, l, 7, 1, 2, shared, api.OK)
	has(t, l, lease.Held{Client: 1, Inode: 2, Until: 71}, lease.Held{Client: 2, Inode: 2, Until: 69}, lease.Held{Client: 3, Inode: 2, Until: 69}, lease.Held{Client: 4, Inode: 3, Own: true, Until: 70})
	asks(t, l, 8, 4, 3, shared, api.OK)
	asks(t, l, 9, 4, 3, own, api.OK)
	asks(t, l, 9, 5, 3, shared, api.ErrAgain, 4)
	if h, ok := l.Find(4, 3); h != (lease.Held{Client: 4, Inode: 3, Own: true, Until: 73}) || !ok {
		t.Error(h)
	}
}

// P19.1: a grant that is over conflicts like any other.
func TestOverConflicts(t *testing.T) {
	l := lease.New()
	asks(t, l, 0, 1, 2, own, api.OK)
	asks(t, l, 1000, 2, 2, shared, api.ErrAgain, 1)
	asks(t, l, 1000, 2, 2, own, api.ErrAgain, 1)
}

// P19.1: one client waits, up to its tick.
func TestWaiting(t *testing.T) {
	l := lease.New()
	asks(t, l, 10, 1, 2, own, api.OK)
	asks(t, l, 20, 2, 2, own, api.ErrAgain, 1)
	asks(t, l, 30, 3, 2, own, api.ErrAgain, 1)
	l.Give(1, 2)
	asks(t, l, 83, 3, 2, own, api.ErrAgain)
	asks(t, l, 83, 1, 2, own, api.ErrAgain)
	asks(t, l, 84, 3, 2, own, api.OK)
	asks(t, l, 84, 4, 2, own, api.ErrAgain, 3)
	asks(t, l, 100, 4, 2, own, api.ErrAgain, 3)
	l.Give(3, 2)
	asks(t, l, 163, 5, 2, shared, api.ErrAgain)
	asks(t, l, 163, 4, 2, shared, api.OK)
	asks(t, l, 163, 5, 2, shared, api.OK)
}

// P19.1: who waits for one inode does not wait for another.
func TestWaitingForOne(t *testing.T) {
	l := lease.New()
	asks(t, l, 0, 1, 2, own, api.OK)
	asks(t, l, 0, 2, 2, own, api.ErrAgain, 1)
	asks(t, l, 0, 3, 3, own, api.OK)
	l.Give(3, 3)
	asks(t, l, 0, 1, 3, own, api.OK)
	l.Give(1, 2)
	asks(t, l, 0, 1, 2, own, api.ErrAgain)
}

// P19.1: a client that waits and has got its grant lets others ask again.
func TestWaitingEnds(t *testing.T) {
	l := lease.New()
	asks(t, l, 0, 1, 2, shared, api.OK)
	asks(t, l, 0, 2, 2, own, api.ErrAgain, 1)
	asks(t, l, 1, 2, 2, shared, api.OK)
	asks(t, l, 2, 3, 2, shared, api.OK)
}

// P19.2
func TestGive(t *testing.T) {
	l := lease.New()
	asks(t, l, 0, 1, 2, own, api.OK)
	for _, c := range [][2]int{{2, 2}, {1, 1}, {0, 2}, {1, 0}, {9, 33}, {math.MaxInt, math.MinInt}} {
		if e := l.Give(c[0], c[1]); e != api.ErrNone {
			t.Error(c, e)
		}
	}
	if l.Give(1, 2) != api.OK || l.Give(1, 2) != api.ErrNone {
		t.Error("give")
	}
	has(t, l)
}

// P19.2
func TestDrop(t *testing.T) {
	l := lease.New()
	asks(t, l, 0, 1, 2, own, api.OK)
	asks(t, l, 0, 2, 5, own, api.OK)
	asks(t, l, 0, 2, 3, shared, api.OK)
	asks(t, l, 0, 1, 3, shared, api.OK)
	asks(t, l, 0, 2, 2, own, api.ErrAgain, 1)
	for _, c := range []int{0, 9, 3, -1, math.MaxInt} {
		l.Drop(c)
	}
	asks(t, l, 0, 3, 2, shared, api.ErrAgain, 1)
	l.Give(1, 2)
	asks(t, l, 0, 3, 2, own, api.ErrAgain)
	l.Drop(2)
	has(t, l, lease.Held{Client: 1, Inode: 3, Until: 64})
	asks(t, l, 0, 3, 2, own, api.OK)
}

// P19.2
func TestOver(t *testing.T) {
	l := lease.New()
	asks(t, l, 5, 3, 2, own, api.OK)
	asks(t, l, 5, 3, 4, own, api.OK)
	asks(t, l, 5, 1, 3, shared, api.OK)
	asks(t, l, 6, 2, 3, shared, api.OK)
	for now, want := range map[int][]int{68: nil, 69: {1, 3}, 70: {1, 2, 3}, math.MaxInt: {1, 2, 3}, 0: nil, -1: nil, math.MinInt: nil} {
		if got := l.Over(now); !slices.Equal(got, want) {
			t.Error(now, got)
		}
	}
	if len(l.All()) != 4 {
		t.Error("Over removed something")
	}
}

// P19.2
func TestFindAndAll(t *testing.T) {
	l := lease.New()
	asks(t, l, 1, 8, 1, shared, api.OK)
	asks(t, l, 2, 1, 32, own, api.OK)
	asks(t, l, 3, 2, 1, shared, api.OK)
	asks(t, l, 4, 5, 9, own, api.OK)
	has(t, l, lease.Held{Client: 2, Inode: 1, Until: 67}, lease.Held{Client: 8, Inode: 1, Until: 65}, lease.Held{Client: 5, Inode: 9, Own: true, Until: 68}, lease.Held{Client: 1, Inode: 32, Own: true, Until: 66})
	for _, want := range l.All() {
		if h, ok := l.Find(want.Client, want.Inode); h != want || !ok {
			t.Error(h)
		}
	}
	for _, c := range [][2]int{{1, 1}, {5, 32}, {0, 1}, {8, 0}, {math.MaxInt, math.MaxInt}} {
		if h, ok := l.Find(c[0], c[1]); h != (lease.Held{}) || ok {
			t.Error(c, h)
		}
	}
}

// P19.3
func TestNeverInConflict(t *testing.T) {
	l := lease.New()
	seed := uint32(1)
	next := func(n int) int {
		seed = seed*1664525 + 1013904223
		return int(seed>>8) % n
	}
	granted := 0
	for now := range 5000 {
		client, inode := 1+next(4), 1+next(3)
		switch next(4) {
		case 0:
			l.Give(client, inode)
		case 1:
			if next(8) == 0 {
				l.Drop(client)
			}
		default:
			if _, e := l.Ask(now, client, inode, next(2) == 0); e == api.OK {
				granted++
			}
		}
		all := l.All()
		for i, a := range all {
			for _, b := range all[:i] {
				if a.Inode == b.Inode && (a.Own || b.Own || a.Client == b.Client) {
					t.Fatal(now, a, b)
				}
			}
		}
	}
	if granted < 500 {
		t.Error("hardly anything was granted", granted)
	}
}

// P19.4
func TestWaiterGetsItsGrant(t *testing.T) {
	l := lease.New()
	asks(t, l, 0, 1, 2, shared, api.OK)
	asks(t, l, 0, 2, 2, shared, api.OK)
	asks(t, l, 50, 3, 2, own, api.ErrAgain, 1, 2)
	for now := 51; now < 100; now++ {
		asks(t, l, now, 4, 2, shared, api.ErrAgain)
		if now == 70 {
			l.Give(1, 2)
		}
	}
	l.Give(2, 2)
	asks(t, l, 113, 4, 2, shared, api.ErrAgain)
	asks(t, l, 113, 3, 2, own, api.OK)
}
