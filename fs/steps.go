package fs

import "commons/api"

// Of a StepCalm.
const (
	calmTicks  = 8
	maxRounds  = 64
	maxPackets = 300 // that are received in a round
)

// Do executes a step.
func (f *Fs) Do(s api.Step) api.Errno {
	execute := f.method(s.Op)
	if execute == nil || !execute(s) {
		return api.ErrStep
	}
	return api.OK
}

// method returns what executes a step, and tells whether the step was possible.
func (f *Fs) method(op int) func(api.Step) bool {
	switch op {
	case api.StepPass:
		return f.doPass
	case api.StepDeliver:
		return f.doDeliver
	case api.StepDrop:
		return f.doDrop
	case api.StepInject:
		return f.doInject
	case api.StepCall:
		return f.doCall
	case api.StepCrash:
		return f.doCrash
	case api.StepStart:
		return f.doStart
	case api.StepEvict:
		return f.doEvict
	case api.StepCalm:
		return f.doCalm
	}
	return nil
}

func (f *Fs) doPass(s api.Step) bool {
	return f.pass(s.N, s.Skew) == api.OK
}

func (f *Fs) doDeliver(s api.Step) bool {
	return f.deliver(f.index(s.N), s.Stay)
}

func (f *Fs) doDrop(s api.Step) bool {
	return f.bag.Drop(f.index(s.N))
}

func (f *Fs) doInject(s api.Step) bool {
	if !f.isNode(s.Node) {
		return false
	}
	f.receive(s.Node, s.Data)
	return true
}

func (f *Fs) doCall(s api.Step) bool {
	if !f.isClient(s.Node) || !f.up[s.Node] || f.clients[s.Node].Busy() {
		return false
	}
	f.past.ask(s.Node, s.Call)
	l, _ := f.clients[s.Node].Ask(s.Call, f.clocks.Show(s.Node))
	f.acted(s.Node, l)
	return true
}

func (f *Fs) doCrash(s api.Step) bool {
	if !f.Up(s.Node) {
		return false
	}
	f.up[s.Node] = false
	f.bag.Lose(s.Node)
	if s.Node == theServer {
		f.m.Crash(s.Picks)
		f.past.lose()
	} else {
		f.clients[s.Node].Stop()
		f.past.abandon(s.Node)
	}
	return true
}

func (f *Fs) doStart(s api.Step) bool {
	return f.isNode(s.Node) && !f.up[s.Node] && f.start(s.Node) == api.OK
}

func (f *Fs) doEvict(s api.Step) bool {
	return f.m.Evict(s.N) == api.OK
}

func (f *Fs) doCalm(s api.Step) bool {
	if s.N < 1 || s.N > maxRounds {
		return false
	}
	for range s.N {
		if f.pass(calmTicks, nil) != api.OK {
			return false
		}
		for range maxPackets {
			if !f.deliver(0, false) {
				break
			}
		}
	}
	return true
}

// deliver lets the packet with an index be received.
func (f *Fs) deliver(k int, stay bool) bool {
	node, data, ok := f.bag.Take(k, stay)
	if ok {
		f.receive(node, data)
	}
	return ok
}

// index returns the index of a packet that a step names; without packets it is
// one of none.
func (f *Fs) index(n int) int {
	if n < 0 {
		n = -(n + 1)
	}
	return n % max(f.bag.Len(), 1)
}
