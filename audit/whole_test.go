package audit_test

import (
	"testing"

	"commons/api"
	"commons/audit"
	"commons/chance"
	"commons/fs"
)

// paths are those of the calls; many let the volume get full.
func paths(many bool) []string {
	l := []string{"/", "/a", "/b", "/d", "/d/a", "/d/b", "/d/e", "/d/e/a", "/c", "bad"}
	for k := range 15 {
		if many {
			l = append(l, "/f"+string(rune('a'+k)), "/d/f"+string(rune('a'+k)))
		}
	}
	return l
}

// mix returns what the steps of a seed are made of.
func mix(seed int) chance.Mix {
	return chance.Mix{Clients: 1 + seed%4, Skew: []int{0, 1, 8}[seed%3], Crashes: seed%4 > 0, Paths: paths(seed%5 == 0)}
}

func removals(s *fs.Fs) [][]int {
	var l [][]int
	for c := range 9 {
		l = append(l, s.Dropped(c))
	}
	return l
}

// fits checks that everything that happened fits into one order.
func fits(t *testing.T, seed int, s *fs.Fs) {
	t.Helper()
	l := s.Events()
	if _, bad := audit.Run(l, removals(s)); bad != 0 {
		t.Fatalf("seed %d: %+v", seed, l[bad-1])
	}
}

// matches checks that the volume is what happened, when all logs were applied.
func matches(t *testing.T, seed int, s *fs.Fs) {
	t.Helper()
	fits(t, seed, s)
	f, _ := audit.Run(s.Events(), removals(s))
	v := s.Server().Volume()
	for c := range api.MaxClients {
		if _, e := v.Take(c + 1); e != api.OK {
			t.Fatal(seed, e)
		}
	}
	if !audit.Matches(v, f) {
		t.Fatal("seed", seed, "does not match")
	}
}

// P25.3 and T1: there is one order, whatever the steps and the clocks.
func TestOneOrder(t *testing.T) {
	answered := 0
	for seed := range 120 {
		src, m := chance.New(seed), mix(seed)
		s := fs.New(m.Clients)
		var old [][]byte
		for k := range 500 {
			s.Do(m.Step(src))
			if n := s.Bag().Len(); n > 0 && src.Below(3) == 0 {
				_, data, _ := s.Bag().Take(src.Below(n), true)
				old = append(old, data)
			}
			if len(old) > 0 && src.Below(6) == 0 {
				s.Do(api.Step{Op: api.StepInject, Node: src.Below(m.Clients + 1), Data: old[src.Below(len(old))]})
			}
			if k%100 == 99 {
				fits(t, seed, s)
			}
		}
		s.Do(api.Step{Op: api.StepStart})
		matches(t, seed, s)
		for _, e := range s.Events() {
			if e.Told > 0 && e.Reply.Errno == api.OK {
				answered++
			}
		}
	}
	if answered < 500 {
		t.Error("hardly anything was answered", answered)
	}
}

// T2: after crashes of the server, also repeated ones, whatever became durable.
func TestAfterCrashes(t *testing.T) {
	for seed := range 100 {
		src := chance.New(5000 + seed)
		m := chance.Mix{Clients: 2, Skew: 1, Paths: paths(false)}
		s := fs.New(2)
		for range 25 {
			for range src.Below(20) {
				s.Do(m.Step(src))
			}
			for range 1 + src.Below(2) {
				c := api.Step{Op: api.StepCrash}
				for range src.Below(60) {
					c.Picks = append(c.Picks, src.Below(2))
				}
				s.Do(c)
				if e := s.Do(api.Step{Op: api.StepStart}); e != api.OK {
					t.Fatal(seed, e)
				}
				f, _ := audit.Run(s.Events(), removals(s))
				if !audit.Matches(s.Server().Volume(), f) {
					t.Fatal("seed", seed, "does not match")
				}
			}
		}
		fits(t, seed, s)
	}
}

// T1: a call that fails because of lack of room changes nothing.
func TestLackOfRoom(t *testing.T) {
	lacked := 0
	for seed := range 60 {
		src := chance.New(9000 + seed)
		m := chance.Mix{Clients: 3, Skew: 1, Crashes: seed%2 == 0, Paths: paths(true)}
		s := fs.New(3)
		leave(t, s, 2+src.Below(9))
		for range 600 {
			s.Do(m.Step(src))
		}
		s.Do(api.Step{Op: api.StepStart})
		matches(t, seed, s)
		for _, e := range s.Events() {
			if e.Told > 0 && e.Reply.Errno == api.ErrSpace {
				lacked++
			}
		}
	}
	if lacked < 30 {
		t.Error("room was hardly ever lacking", lacked)
	}
}

// leave lets only n blocks be free; the others belong to nobody.
func leave(t *testing.T, s *fs.Fs, n int) {
	t.Helper()
	v := s.Server().Volume()
	used := v.Meta().Map()
	for used.Count() < api.Blocks-n {
		used = used.Take(used.First(1))
	}
	if v.Meta().SetMap(used) != api.OK || v.Commit() != api.OK {
		t.Fatal("leave")
	}
}
