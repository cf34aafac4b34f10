package lines

import "commons/api"

// steps returns what goes through the words of a line, by its first word.
func steps() map[string]func(*coder, *api.Step) {
	return map[string]func(*coder, *api.Step){
		"pass":    step(api.StepPass, count, skew),
		"deliver": step(api.StepDeliver, count, stay),
		"drop":    step(api.StepDrop, count),
		"inject":  step(api.StepInject, node, injected),
		"call":    step(api.StepCall, node, called),
		"crash":   step(api.StepCrash, node, picks),
		"start":   step(api.StepStart, node),
		"evict":   step(api.StepEvict, count),
		"calm":    step(api.StepCalm, count),
	}
}

// calls returns what goes through the words of a call, by its first word.
func calls() map[string]func(*coder, *api.Call) {
	return map[string]func(*coder, *api.Call){
		"open":   call(api.Open, path, flags),
		"close":  call(api.Close, fd),
		"read":   call(api.Read, fd, off, size),
		"write":  call(api.Write, fd, off, written),
		"trunc":  call(api.Trunc, fd, size),
		"sync":   call(api.Sync, fd),
		"mkdir":  call(api.Mkdir, path),
		"rmdir":  call(api.Rmdir, path),
		"link":   call(api.Link, path, path2),
		"unlink": call(api.Unlink, path),
		"rename": call(api.Rename, path, path2),
		"list":   call(api.List, path),
		"stat":   call(api.Stat, path),
	}
}

// step returns what goes through the fields of one kind of steps.
func step(op int, fields ...func(*coder, *api.Step)) func(*coder, *api.Step) {
	return func(c *coder, s *api.Step) {
		c.kind(&s.Op, op)
		for _, field := range fields {
			field(c, s)
		}
	}
}

func node(c *coder, s *api.Step)     { c.number(&s.Node) }
func count(c *coder, s *api.Step)    { c.number(&s.N) }
func stay(c *coder, s *api.Step)     { c.stay(&s.Stay) }
func skew(c *coder, s *api.Step)     { c.numbers(&s.Skew) }
func picks(c *coder, s *api.Step)    { c.numbers(&s.Picks) }
func injected(c *coder, s *api.Step) { c.bytes(&s.Data) }
func called(c *coder, s *api.Step)   { choose(c, calls(), &s.Call) }

// call returns what goes through the fields of one kind of calls.
func call(kind int, fields ...func(*coder, *api.Call)) func(*coder, *api.Call) {
	return func(c *coder, k *api.Call) {
		c.kind(&k.Kind, kind)
		for _, field := range fields {
			field(c, k)
		}
	}
}

func path(c *coder, k *api.Call)  { c.word(&k.Path) }
func path2(c *coder, k *api.Call) { c.word(&k.Path2) }
func flags(c *coder, k *api.Call) { c.number(&k.Flags) }
func fd(c *coder, k *api.Call)    { c.number(&k.Fd) }
func off(c *coder, k *api.Call)   { c.number(&k.Off) }
func size(c *coder, k *api.Call)  { c.number(&k.N) }

func written(c *coder, k *api.Call) {
	b := []byte(k.Data)
	c.bytes(&b)
	k.Data = string(b)
}
