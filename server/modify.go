package server

import "commons/api"

// fullFlag is added to the flags of an Open by a client without a free descriptor.
const fullFlag = 4

// modify executes a question that changes names or descriptors, once.
func (s *Server) modify(q question) (api.Packet, []api.Packet) {
	kept := q.slot.Kept
	if q.Seq != q.slot.Rpc {
		kept = s.change(q)
		s.mark(Mark{Client: q.Client, Id: q.Seq, Errno: kept.Errno})
	}
	a := q.told(kept.Errno)
	a.Inode = kept.Inode
	return a, nil
}

// change executes a modifying question for the first time.
func (s *Server) change(q question) api.Answer {
	if q.Op == api.Close {
		if e := s.apply(q.Client); e != api.OK {
			return api.Answer{Errno: e}
		}
	}
	kept := s.call(q)
	if kept.Errno != api.OK {
		s.volume.Drop()
	}
	if s.keep(q, kept) != api.OK {
		kept = api.Answer{Errno: api.ErrSpace}
		s.keep(q, kept)
	}
	if q.Op == api.Close && kept.Errno == api.OK {
		s.release(q.Client, q.Inode)
	}
	return kept
}

// call executes a modifying question by the call of meta with its name.
func (s *Server) call(q question) api.Answer {
	m, path, path2, spare := s.volume.Meta(), q.Call.Path, q.Call.Path2, s.spare()
	var a api.Answer
	switch q.Op {
	case api.Open:
		a.Inode, a.Errno = m.Open(q.Client, path, q.Call.Flags%fullFlag, q.Call.Flags >= fullFlag, spare)
	case api.Close:
		a.Errno = m.Close(q.Client, q.Inode)
	case api.Mkdir:
		a.Errno = m.Mkdir(path, spare)
	case api.Rmdir:
		a.Errno = m.Rmdir(path)
	case api.Link:
		a.Errno = m.Link(path, path2, spare)
	case api.Unlink:
		a.Errno = m.Unlink(path)
	case api.Rename:
		a.Errno = m.Rename(path, path2, spare)
	}
	return a
}

// keep commits what was stored together with the answer.
func (s *Server) keep(q question, kept api.Answer) api.Errno {
	slot, e := s.volume.Slot(q.Client)
	slot.Rpc, slot.Kept = q.Seq, kept
	return s.commit(q.Client, e, slot)
}

// release gives a client's grant back if it has no descriptor any more.
func (s *Server) release(client, inode int) {
	x, e := s.volume.Meta().Inode(inode)
	if e == api.OK && x.Opens[client-1] == 0 {
		s.leases.Give(client, inode)
	}
}
