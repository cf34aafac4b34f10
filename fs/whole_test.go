package fs_test

import (
	"testing"

	"commons/api"
	"commons/chance"
	"commons/fs"
	"commons/inode"
	"commons/layout"
)

var paths = []string{"/", "/a", "/b", "/d", "/d/a", "/d/b", "/d/e", "/d/e/a", "/c", "bad"}

// runs runs systems by steps that look random, and calls f after each step.
func runs(t *testing.T, seeds int, f func(seed int, s *fs.Fs)) {
	t.Helper()
	for seed := range seeds {
		src := chance.New(seed)
		mix := chance.Mix{Clients: 1 + seed%4, Skew: []int{0, 1, 1, 8}[seed/4%4], Crashes: seed%4 > 0, Paths: paths}
		s := fs.New(mix.Clients)
		for range 300 {
			s.Do(mix.Step(src))
			f(seed, s)
			if t.Failed() {
				return
			}
		}
	}
}

// settled lets all nodes be up, and time pass calmly.
func settled(s *fs.Fs) {
	for node := range 9 {
		s.Do(start(node))
	}
	s.Do(calm(64))
}

// T3: own grants are alone, and so are trusted leases as long as clocks keep their bound.
func TestLeases(t *testing.T) {
	kept := 0
	runs(t, 60, func(seed int, s *fs.Fs) {
		l := s.Server().Leases().All()
		for i, a := range l {
			for _, b := range l[:i] {
				if a.Inode == b.Inode && (a.Own || b.Own) {
					t.Error("grants", seed, a, b)
				}
			}
		}
		if !s.Clocks().Kept() {
			return
		}
		own, any := map[int]int{}, map[int]int{}
		for c := 1; s.Client(c) != nil; c++ {
			for _, x := range s.Client(c).Trusts(s.Clocks().Show(c)) {
				kept++
				any[x.Inode]++
				if x.Own {
					own[x.Inode]++
				}
			}
		}
		for i, n := range own {
			if n > 1 || any[i] > n {
				t.Error("trusted leases", seed, i)
			}
		}
	})
	if kept < 200 {
		t.Error("hardly any lease was trusted", kept)
	}
}

// T3: nothing of an epoch that has ended changes a byte.
func TestOldEpochs(t *testing.T) {
	var seen [][]byte
	now, tried := -1, 0
	runs(t, 20, func(seed int, s *fs.Fs) {
		if seed != now {
			seen, now = nil, seed
		}
		for k := range s.Bag().Len() {
			if to, data, _ := s.Bag().Take(k, true); to == 0 {
				seen = append(seen, data)
			}
		}
		if len(seen) == 0 || !s.Up(0) {
			return
		}
		data := seen[s.Moment()%len(seen)]
		p := packet(t, data)
		if p.Op == api.Hello || p.Epoch >= s.Server().Epoch(p.Client) {
			return
		}
		tried++
		v := s.Server().Volume()
		before, _ := v.Load(0, layout.Size())
		s.Do(api.Step{Op: api.StepInject, Data: data})
		if after, _ := v.Load(0, layout.Size()); string(before) != string(after) {
			t.Error("a packet of an old epoch", seed, p)
		}
	})
	if tried < 100 {
		t.Error("hardly any packet was old", tried)
	}
}

// T4: what a client leaves behind when it starts again.
func TestFailedClients(t *testing.T) {
	for seed := range 60 {
		src := chance.New(seed)
		mix := chance.Mix{Clients: 3, Skew: 1, Paths: paths}
		s := fs.New(3)
		for range 200 + seed {
			s.Do(mix.Step(src))
		}
		epoch := s.Server().Epoch(1)
		does(t, s, crash(1), start(1), calm(20))
		if s.Server().Epoch(1) <= epoch || len(s.Server().Volume().Pending(1)) != 0 {
			t.Error("its epoch", seed)
		}
		for _, h := range s.Server().Leases().All() {
			if h.Client == 1 {
				t.Error("its leases", seed, h)
			}
		}
		for c := 1; c <= 3; c++ {
			does(t, s, crash(c), start(c), calm(12))
		}
		reachable(t, s)
	}
}

// reachable checks that blocks and inodes are reachable, or free, when no file is open.
func reachable(t *testing.T, s *fs.Fs) {
	t.Helper()
	m := s.Server().Volume().Meta()
	used := m.Map()
	names := map[int]int{layout.Root: 1}
	for i := 1; i <= api.Inodes; i++ {
		x, _ := m.Inode(i)
		for _, b := range x.Blocks {
			if b != 0 && !used.Used(b) {
				t.Error("a block of two inodes, or of none", i, b)
			}
			used = used.Give(b)
		}
		if x.Kind == api.Dir {
			table, _ := m.Table(i)
			for _, e := range table {
				names[e.Inode]++
			}
		}
	}
	if used.Count() != 0 {
		t.Error("blocks that belong to nobody", used.All())
	}
	for i := 1; i <= api.Inodes; i++ {
		if x, _ := m.Inode(i); x.Links != names[i] || inode.Open(x) != 0 {
			t.Error("an inode that is not reachable", i, x)
		}
	}
}

// T5: when all nodes are up, and time passes calmly, each call is answered.
func TestEverythingIsAnswered(t *testing.T) {
	answered := 0
	for seed := range 60 {
		src := chance.New(1000 + seed)
		mix := chance.Mix{Clients: 1 + seed%4, Skew: seed % 9, Crashes: seed%3 > 0, Paths: paths}
		s := fs.New(mix.Clients)
		for range 300 {
			s.Do(mix.Step(src))
		}
		settled(s)
		for c := 1; c <= mix.Clients; c++ {
			if s.Client(c).Busy() {
				t.Error("a call is not answered", seed, c)
			}
		}
		for _, e := range s.Events() {
			if e.Reply.Errno == api.ErrSpace {
				t.Error("there is room", seed, e)
			}
			if e.Told > 0 {
				answered++
			}
		}
	}
	if answered < 1000 {
		t.Error("hardly anything was answered", answered)
	}
}

// P24.4
func TestMomentsInOrder(t *testing.T) {
	runs(t, 40, func(seed int, s *fs.Fs) {
		for i, e := range s.Events() {
			if e.Number != i+1 || e.Asked < 1 || e.Told > s.Moment() || e.Done != 0 && e.Done < e.Asked || e.Told != 0 && (e.Done == 0 || e.Done > e.Told) {
				t.Error(seed, e)
			}
		}
	})
}
