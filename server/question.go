package server

import (
	"slices"

	"commons/api"
)

// question is a packet that asks something, with what belongs to it.
type question struct {
	api.Packet
	now  int
	slot api.Slot // of the client
}

// told returns the answer to a question, with an error and nothing else.
func (q question) told(e api.Errno) api.Packet {
	return api.Packet{Kind: api.RpcTold, Client: q.Client, Epoch: q.Epoch, Seq: q.Seq, Op: q.Op, Errno: e}
}

// modifying reports whether a question is one that is executed only once.
func (q question) modifying() bool {
	switch q.Op {
	case api.Open, api.Close, api.Mkdir, api.Rmdir, api.Link, api.Unlink, api.Rename:
		return true
	}
	return false
}

// ask processes a question, and returns its answer and the packets beside it.
func (s *Server) ask(p api.Packet, now int) []api.Packet {
	if p.Seq < 1 || p.Seq > api.MaxCall {
		return nil
	}
	slot, e := s.volume.Slot(p.Client)
	q := question{p, now, slot}
	if e != api.OK {
		return []api.Packet{q.told(e)}
	}
	asked := &s.asked[p.Client-1]
	switch {
	case p.Op == api.Resume:
		return []api.Packet{s.resume(q)}
	case p.Seq < asked.seq:
		return nil
	case p.Seq == asked.seq:
		return []api.Packet{copied(asked.answer)}
	case p.Seq < slot.Rpc && (p.Op == api.Hello || q.modifying()):
		return nil
	case p.Op != api.Hello && p.Epoch != slot.Epoch:
		return []api.Packet{q.told(api.ErrEpoch)}
	}
	execute := s.method(q)
	answer, beside := execute(q)
	*asked = last{p.Seq, copied(answer)}
	return append([]api.Packet{answer}, beside...)
}

// method returns how a question is executed.
func (s *Server) method(q question) func(question) (api.Packet, []api.Packet) {
	switch {
	case q.Op == api.Hello:
		return s.hello
	case q.modifying():
		return s.modify
	}
	switch q.Op {
	case api.List:
		return s.list
	case api.Stat:
		return s.stat
	case api.Grant:
		return s.grant
	case api.Give:
		return s.give
	case api.Clean:
		return s.clean
	}
	return s.refuse
}

func (s *Server) resume(q question) api.Packet {
	a := q.told(api.OK)
	a.At, a.Wrote = q.slot.Epoch, q.slot.Wrote
	return a
}

func (s *Server) hello(q question) (api.Packet, []api.Packet) {
	if q.Seq == q.slot.Rpc {
		a := q.told(q.slot.Kept.Errno)
		a.Inode, a.At = q.slot.Kept.Inode, q.slot.Epoch
		return a, nil
	}
	a := q.told(s.begin(q))
	slot, _ := s.volume.Slot(q.Client)
	a.At = slot.Epoch
	s.mark(Mark{Client: q.Client, Id: q.Seq, Fresh: true, Errno: a.Errno})
	return a, nil
}

// begin lets a client have nothing but a new epoch.
func (s *Server) begin(q question) api.Errno {
	if q.slot.Epoch >= api.MaxEpoch {
		return api.ErrArg
	}
	if e := s.apply(q.Client); e != api.OK {
		return e
	}
	slot, e := s.volume.Slot(q.Client)
	if e != api.OK {
		return e
	}
	slot.Epoch, slot.Head, slot.Rpc, slot.Kept = slot.Epoch+1, 0, q.Seq, api.Answer{}
	if e := s.commit(q.Client, s.volume.Meta().Drop(q.Client), slot); e != api.OK {
		return e
	}
	s.leases.Drop(q.Client)
	return s.renew(q.Client)
}

// commit commits what was stored together with a client's slot, unless there
// was an error.
func (s *Server) commit(client int, e api.Errno, slot api.Slot) api.Errno {
	if e == api.OK {
		e = s.volume.SetSlot(client, slot)
	}
	if e == api.OK {
		e = s.volume.Commit()
	}
	if e != api.OK {
		s.volume.Drop()
	}
	return e
}

func (s *Server) list(q question) (api.Packet, []api.Packet) {
	l, e := s.volume.Meta().List(q.Call.Path)
	a := q.told(e)
	a.Reply.Names = l
	s.mark(Mark{Client: q.Client, Id: q.Seq, Errno: e})
	return a, nil
}

func (s *Server) stat(q question) (api.Packet, []api.Packet) {
	e := api.OK
	for k := range api.MaxClients {
		if bad := s.apply(k + 1); e == api.OK {
			e = bad
		}
	}
	var info api.Info
	if e == api.OK {
		info, e = s.volume.Meta().Stat(q.Call.Path)
	}
	a := q.told(e)
	a.Reply.Info = info
	s.mark(Mark{Client: q.Client, Id: q.Seq, Errno: e})
	return a, nil
}

func (s *Server) grant(q question) (api.Packet, []api.Packet) {
	if s.quiet(q.now) {
		return q.told(api.ErrQuiet), nil
	}
	if x, e := s.volume.Meta().Inode(q.Inode); e != api.OK || x.Opens[q.Client-1] == 0 {
		return q.told(api.ErrBadFd), nil
	}
	if e := s.apply(q.Client); e != api.OK {
		return q.told(e), nil
	}
	own := q.Call.Flags == 1
	holders, e := s.leases.Ask(q.now, q.Client, q.Inode, own)
	if e != api.OK {
		return q.told(e), s.recalls(q.Inode, holders)
	}
	if own && s.spare() > api.Blocks-s.volume.Meta().Map().Count() {
		s.leases.Give(q.Client, q.Inode)
		return q.told(api.ErrSpace), nil
	}
	a := q.told(api.OK)
	a.Inode = q.Inode
	a.Node, _ = s.volume.Meta().Inode(q.Inode)
	a.Node.Opens = [api.MaxClients]int{}
	return a, nil
}

// quiet reports whether grants of an earlier server may still be trusted. The
// difference is taken without sign, since it may be no number otherwise.
func (s *Server) quiet(now int) bool {
	return now < s.start || uint(now)-uint(s.start) < api.Lease
}

// recalls returns the packets that want an inode back from some clients.
func (s *Server) recalls(inode int, clients []int) []api.Packet {
	var l []api.Packet
	for _, c := range clients {
		l = append(l, api.Packet{Kind: api.Recall, Client: c, Epoch: s.card.Epoch(c), Inode: inode})
	}
	return l
}

func (s *Server) give(q question) (api.Packet, []api.Packet) {
	e := s.apply(q.Client)
	if e == api.OK {
		e = s.leases.Give(q.Client, q.Inode)
	}
	return q.told(e), nil
}

func (s *Server) clean(q question) (api.Packet, []api.Packet) {
	e := s.apply(q.Client)
	if e == api.OK {
		e = s.end(q.Client)
	}
	a := q.told(e)
	slot, _ := s.volume.Slot(q.Client)
	a.At = slot.Epoch
	return a, nil
}

func (s *Server) refuse(q question) (api.Packet, []api.Packet) {
	return q.told(api.ErrInval), nil
}

// copied returns a packet that shares no memory.
func copied(p api.Packet) api.Packet {
	p.Reply.Names = slices.Clone(p.Reply.Names)
	return p
}
