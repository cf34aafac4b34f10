// Package chance makes steps of a system that look random, for tests. The same
// seed makes the same steps.
package chance

import (
	"strings"

	"commons/api"
)

// Source is a sequence of numbers that look random.
type Source struct {
	state uint64
}

// New returns the sequence of a seed.
func New(seed int) *Source {
	s := &Source{uint64(seed)*2654435761 + 88172645463325252}
	for range 10 {
		s.Below(2)
	}
	return s
}

// Below returns the next number, from 0 to n - 1.
func (s *Source) Below(n int) int {
	s.state ^= s.state << 13
	s.state ^= s.state >> 7
	s.state ^= s.state << 17
	return int(s.state>>11) % n
}

// Bytes returns up to n bytes.
func (s *Source) Bytes(n int) string {
	var b strings.Builder
	for range s.Below(n + 1) {
		b.WriteByte(byte('a' + s.Below(26)))
	}
	return b.String()
}

// Mix is what steps are made of.
type Mix struct {
	Clients int
	Skew    int      // the greatest skew
	Crashes bool     // nodes lose their power
	Paths   []string // of the calls
}

// Step returns a step.
func (m Mix) Step(s *Source) api.Step {
	switch k := s.Below(100); {
	case k < 24:
		return api.Step{Op: api.StepCall, Node: 1 + s.Below(m.Clients), Call: m.call(s)}
	case k < 62:
		return api.Step{Op: api.StepDeliver, N: s.Below(8), Stay: s.Below(8) == 0}
	case k < 68:
		return api.Step{Op: api.StepDeliver, N: s.Below(api.MaxPackets)}
	case k < 71:
		return api.Step{Op: api.StepDrop, N: s.Below(8)}
	case k < 77:
		return m.pass(s)
	case k < 80:
		return api.Step{Op: api.StepEvict, N: s.Below(362)}
	case k < 82 && m.Crashes:
		return m.crash(s)
	case k < 88:
		return api.Step{Op: api.StepStart, Node: s.Below(m.Clients + 1)}
	}
	return api.Step{Op: api.StepCalm, N: 1 + s.Below(12)}
}

func (m Mix) pass(s *Source) api.Step {
	p := api.Step{Op: api.StepPass, N: 1 + s.Below(20)}
	for range s.Below(m.Clients + 2) {
		p.Skew = append(p.Skew, s.Below(2*m.Skew+1)-m.Skew)
	}
	return p
}

func (m Mix) crash(s *Source) api.Step {
	c := api.Step{Op: api.StepCrash, Node: s.Below(m.Clients + 1)}
	for range s.Below(40) {
		c.Picks = append(c.Picks, s.Below(10)-5)
	}
	return c
}

// call returns a call, with the fields of its kind alone; those that work on
// bytes are the most frequent ones.
func (m Mix) call(s *Source) api.Call {
	kinds := []int{
		api.Open, api.Open, api.Open, api.Open, api.Open, api.Open, api.Close, api.Read, api.Read, api.Read, api.Write, api.Write, api.Write,
		api.Trunc, api.Sync, api.Mkdir, api.Mkdir, api.Rmdir, api.Link, api.Unlink, api.Rename, api.List, api.Stat,
	}
	c := api.Call{Kind: kinds[s.Below(len(kinds))]}
	switch c.Kind {
	case api.Open:
		c.Path, c.Flags = m.path(s), flags(s)
	case api.Link, api.Rename:
		c.Path, c.Path2 = m.path(s), m.path(s)
	case api.Mkdir, api.Rmdir, api.Unlink, api.List, api.Stat:
		c.Path = m.path(s)
	default:
		c.Fd = s.Below(1 + s.Below(3))
	}
	switch c.Kind {
	case api.Read:
		c.Off, c.N = s.Below(api.MaxFile), s.Below(api.MaxData+1)
	case api.Write:
		c.Off, c.Data = s.Below(api.MaxFile), s.Bytes(api.MaxData)
	case api.Trunc:
		c.N = s.Below(api.MaxFile + 2)
	}
	return c
}

func (m Mix) path(s *Source) string {
	return m.Paths[s.Below(len(m.Paths))]
}

// flags returns those of an Open, which creates a file in most cases.
func flags(s *Source) int {
	if s.Below(8) == 0 {
		return s.Below(4)
	}
	return api.Create
}
