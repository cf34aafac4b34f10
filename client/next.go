package client

import (
	"maps"
	"slices"

	"commons/api"
	"commons/clog"
	"commons/layout"
	"commons/num"
)

const (
	fullFlag = 4 // of an Open by a client without a free descriptor
	endSize  = api.Cell
	logRoom  = api.ClientLog - endSize
)

// next returns what the client sends next, and waits for its answer.
func (c *Client) next(now int) []api.Packet {
	if !c.up || c.wait != nil || c.pausing(now) {
		return nil
	}
	p, ok := c.choose(now)
	if !ok {
		return nil
	}
	c.wait = &waiting{p, now, now}
	return []api.Packet{p}
}

func (c *Client) pausing(now int) bool {
	if c.pause != nil && passed(api.Retry, *c.pause, now) {
		c.pause = nil
	}
	return c.pause != nil
}

// choose returns the packet that is sent next, if there is one.
func (c *Client) choose(now int) (api.Packet, bool) {
	switch {
	case c.epoch == 0:
		return c.question(api.Hello, c.newNumber()), true
	case c.stale:
		return c.question(api.Resume, c.newNumber()), true
	case !c.busy:
		return c.giveBack()
	}
	send := c.method()
	return send(now), true
}

// giveBack returns the Give for the least inode that is wanted back.
func (c *Client) giveBack() (api.Packet, bool) {
	maps.DeleteFunc(c.recalled, func(inode int, _ struct{}) bool {
		_, ok := c.leases[inode]
		return !ok
	})
	if len(c.recalled) == 0 {
		return api.Packet{}, false
	}
	inode := slices.Min(slices.Collect(maps.Keys(c.recalled)))
	delete(c.recalled, inode)
	delete(c.leases, inode)
	p := c.question(api.Give, c.newNumber())
	p.Inode = inode
	return p, true
}

// method returns how the next packet for the call is made.
func (c *Client) method() func(now int) api.Packet {
	switch c.call.Kind {
	case api.Read:
		return c.sendRead
	case api.Write, api.Trunc:
		return c.sendWrite
	case api.Close:
		return c.sendClose
	}
	return c.sendCall
}

func (c *Client) sendCall(int) api.Packet {
	p := c.question(c.call.Kind, c.callNumber())
	p.Call.Path = c.call.Path
	switch c.call.Kind {
	case api.Link, api.Rename:
		p.Call.Path2 = c.call.Path2
	case api.Open:
		p.Call.Flags = c.call.Flags
		if _, ok := c.free(); !ok {
			p.Call.Flags += fullFlag
		}
	}
	return p
}

func (c *Client) sendClose(int) api.Packet {
	inode := c.file(c.call.Fd)
	p := c.question(api.Close, c.callNumber())
	p.Inode = inode
	left := c.fds
	left[c.call.Fd] = 0
	if !slices.Contains(left[:], inode) {
		delete(c.leases, inode)
	}
	return p
}

func (c *Client) sendRead(now int) api.Packet {
	inode := c.file(c.call.Fd)
	if !c.trusts(inode, now) {
		return c.grant(inode, 0)
	}
	at, n := c.log().At, endSize
	if l := c.leases[inode].blocks(); len(c.blocks) < len(l) {
		part, _ := layout.Find(layout.Data, l[len(c.blocks)])
		at, n = part.At, api.BlockSize
	}
	p := c.verb(api.Get, at)
	p.N = n
	return p
}

func (c *Client) sendWrite(now int) api.Packet {
	inode := c.file(c.call.Fd)
	if c.done == 0 && !(c.trusts(inode, now) && c.leases[inode].own) {
		return c.grant(inode, 1)
	}
	b, _ := clog.Encode(c.record())
	if c.written+len(b) > logRoom {
		return c.question(api.Clean, c.newNumber())
	}
	log := c.log().At
	end, _ := clog.End(c.epoch, c.written+len(b))
	switch c.done {
	case 0:
		return c.put(log+endSize+c.written, b)
	case 1:
		return c.flush(log+endSize+c.written, len(b))
	case 2:
		return c.put(log, num.Put(nil, end, endSize))
	}
	return c.flush(log, endSize)
}

// record returns the record of a Write or a Trunc.
func (c *Client) record() api.Record {
	r := api.Record{Call: c.callNumber(), Inode: c.file(c.call.Fd), Off: c.call.Off, Data: c.call.Data}
	if c.call.Kind == api.Trunc {
		r.Trunc, r.Off, r.Data = true, c.call.N, ""
	}
	return r
}

// grant asks for a lease, instead of one that the client has.
func (c *Client) grant(inode, flags int) api.Packet {
	delete(c.leases, inode)
	c.blocks = nil
	p := c.question(api.Grant, c.newNumber())
	p.Inode, p.Call.Flags = inode, flags
	return p
}

func (c *Client) put(at int, b []byte) api.Packet {
	p := c.verb(api.Put, at)
	p.Data = string(b)
	return p
}

func (c *Client) flush(at, n int) api.Packet {
	p := c.verb(api.Flush, at)
	p.N = n
	return p
}

func (c *Client) verb(op, at int) api.Packet {
	return api.Packet{Kind: api.VerbAsk, Client: c.number, Epoch: c.epoch, Seq: c.verbs + 1, Op: op, At: at}
}

func (c *Client) question(op, seq int) api.Packet {
	return api.Packet{Kind: api.RpcAsk, Client: c.number, Epoch: c.epoch, Seq: seq, Op: op}
}

// newNumber returns the next number of the client's life.
func (c *Client) newNumber() int {
	c.used++
	return lifeUnit*c.life + c.used
}

// callNumber returns the call's number, which is a new one when it is first needed.
func (c *Client) callNumber() int {
	if c.id == 0 {
		c.id = c.newNumber()
	}
	return c.id
}

func (c *Client) log() layout.Part {
	p, _ := layout.Find(layout.Logs, c.number)
	return p
}

// blocks returns the blocks of a lease's file.
func (l lease) blocks() []int {
	return slices.DeleteFunc(slices.Clone(l.node.Blocks[:]), func(n int) bool { return n == 0 })
}
