package client

import (
	"maps"
	"strings"

	"commons/api"
	"commons/clog"
	"commons/files"
)

// writeVerbs is the number of verbs of a Write or a Trunc.
const writeVerbs = 4

// answerAtOnce answers the call if that needs no server.
func (c *Client) answerAtOnce() {
	if !c.busy || c.epoch == 0 {
		return
	}
	if e, ok := c.atOnce(); ok {
		c.tell(api.Reply{Errno: e})
	}
}

// atOnce returns the answer to a call that needs no server.
func (c *Client) atOnce() (api.Errno, bool) {
	k := c.call
	switch k.Kind {
	case api.Open:
		return api.ErrInval, k.Flags != 0 && k.Flags != api.Create && k.Flags != api.Create|api.Only || tooLong(k.Path)
	case api.Mkdir, api.Rmdir, api.Unlink, api.List, api.Stat:
		return api.ErrInval, tooLong(k.Path)
	case api.Link, api.Rename:
		return api.ErrInval, tooLong(k.Path) || tooLong(k.Path2)
	case api.Close, api.Read, api.Write, api.Trunc, api.Sync:
		if c.file(k.Fd) == 0 {
			return api.ErrBadFd, true
		}
		return bytesAtOnce(k)
	}
	return api.ErrInval, true
}

// bytesAtOnce does what atOnce does for a call whose descriptor denotes an inode.
func bytesAtOnce(k api.Call) (api.Errno, bool) {
	switch k.Kind {
	case api.Read:
		return api.ErrInval, k.Off < 0 || k.N < 0 || k.N > api.MaxData
	case api.Write:
		switch {
		case k.Off < 0 || len(k.Data) > api.MaxData:
			return api.ErrInval, true
		case k.Data == "":
			return api.OK, true
		}
		return api.ErrBig, k.Off > api.MaxFile-len(k.Data)
	case api.Trunc:
		if k.N < 0 {
			return api.ErrInval, true
		}
		return api.ErrBig, k.N > api.MaxFile
	}
	return api.OK, k.Kind == api.Sync
}

func tooLong(path string) bool {
	const maxPath = 100
	return len(path) > maxPath
}

// effect is the effect of the answer to what was asked.
func (c *Client) effect(p api.Packet, asked waiting, now int) {
	if p.Errno == api.ErrEpoch || p.Errno == api.ErrKey {
		c.stale = true
		clear(c.leases)
		c.forget()
		return
	}
	if p.Kind == api.VerbTold {
		c.verbs++
		c.verbTold(p)
		return
	}
	switch p.Op {
	case api.Hello:
		c.helloTold(p, now)
	case api.Resume:
		c.begin(p)
		if c.busy && c.id != 0 && c.id == p.Wrote && (c.call.Kind == api.Write || c.call.Kind == api.Trunc) {
			c.tell(api.Reply{})
		}
	case api.Grant:
		c.grantTold(p, asked, now)
	case api.Give:
	case api.Clean:
		c.cleanTold(p)
	default:
		c.callTold(p)
	}
}

// begin begins an epoch.
func (c *Client) begin(p api.Packet) {
	c.epoch, c.stale, c.verbs, c.written = p.At, false, 0, 0
}

func (c *Client) helloTold(p api.Packet, now int) {
	if p.Errno != api.OK {
		c.pause = &now
		return
	}
	c.begin(p)
	c.answerAtOnce()
}

func (c *Client) grantTold(p api.Packet, asked waiting, now int) {
	switch p.Errno {
	case api.OK:
		q := asked.packet
		c.leases[q.Inode] = lease{own: q.Call.Flags == 1, since: asked.first, node: p.Node}
	case api.ErrAgain, api.ErrQuiet:
		c.pause = &now
	default:
		c.tell(api.Reply{Errno: p.Errno})
	}
}

func (c *Client) cleanTold(p api.Packet) {
	if p.Errno != api.OK {
		c.tell(api.Reply{Errno: p.Errno})
		return
	}
	c.begin(p)
	maps.DeleteFunc(c.leases, func(_ int, l lease) bool { return len(l.records) > 0 })
}

// callTold answers the call by the answer to its own question.
func (c *Client) callTold(p api.Packet) {
	r := api.Reply{Errno: p.Errno}
	if p.Errno == api.OK {
		switch c.call.Kind {
		case api.Open:
			fd, ok := c.free()
			if ok {
				c.fds[fd] = p.Inode
			}
			r.Fd = fd
		case api.Close:
			c.fds[c.call.Fd] = 0
		case api.List:
			r.Names = p.Reply.Names
		case api.Stat:
			r.Info = p.Reply.Info
		}
	}
	c.tell(r)
}

func (c *Client) verbTold(p api.Packet) {
	if p.Op == api.Get {
		c.blocks = append(c.blocks, p.Data)
		if len(c.blocks) >= len(c.leases[c.file(c.call.Fd)].blocks()) {
			c.tell(api.Reply{Data: c.read()})
		}
		return
	}
	if c.done++; c.done == writeVerbs {
		c.wrote()
		c.tell(api.Reply{})
	}
}

// read returns the bytes that a Read asks for, when all blocks were received.
func (c *Client) read() string {
	l := c.leases[c.file(c.call.Fd)]
	s := ""
	if len(l.blocks()) > 0 {
		s = strings.Join(c.blocks, "")
	}
	s = s[:min(l.node.Size, len(s))]
	for _, r := range l.records {
		if changed, e := files.Change(s, r); e == api.OK {
			s = changed
		}
	}
	s = s[min(c.call.Off, len(s)):]
	return s[:min(c.call.N, len(s))]
}

// wrote counts the record of a Write or a Trunc, which is in the log now.
func (c *Client) wrote() {
	r := c.record()
	b, _ := clog.Encode(r)
	c.written += len(b)
	if l, ok := c.leases[r.Inode]; ok {
		l.records = append(l.records, r)
		c.leases[r.Inode] = l
	}
}
