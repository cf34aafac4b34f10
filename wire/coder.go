package wire

import (
	"commons/api"
	"commons/num"
)

// Bounds of what packets contain.
const (
	maxBytes = 128 // of a verb's Data
	maxPath  = 100
	maxNames = 16
)

// coder goes through the fields of a packet, and puts or reads each of them,
// so that one list of fields serves both ways.
type coder struct {
	putting bool
	b       []byte // what was put so far, or what is read
	at      int    // where reading goes on
	wrong   bool
}

func (c *coder) packet(p *api.Packet) {
	c.numbers(1, &p.Kind, &p.Client)
	c.numbers(4, &p.Epoch)
	c.numbers(8, &p.Seq)
	c.check(p.Client >= 1 && p.Client <= api.MaxClients)
	rest := c.rest(p.Kind)
	if rest == nil {
		c.wrong = true
		return
	}
	rest(p)
}

// rest returns what goes through the fields behind the head.
func (c *coder) rest(kind int) func(*api.Packet) {
	switch kind {
	case api.VerbAsk:
		return c.verbAsk
	case api.VerbTold:
		return c.verbTold
	case api.RpcAsk:
		return c.rpcAsk
	case api.RpcTold:
		return c.rpcTold
	case api.Recall:
		return c.recall
	}
	return nil
}

func (c *coder) verbAsk(p *api.Packet) {
	c.verb(p)
	c.numbers(4, &p.At)
	c.numbers(2, &p.N)
	c.text(2, maxBytes, &p.Data)
	c.numbers(8, &p.Old, &p.New)
}

func (c *coder) verbTold(p *api.Packet) {
	c.verb(p)
	c.errno(&p.Errno)
	c.text(2, maxBytes, &p.Data)
	c.numbers(8, &p.Old)
}

func (c *coder) rpcAsk(p *api.Packet) {
	c.numbers(1, &p.Op, &p.Inode)
	c.text(1, maxPath, &p.Call.Path)
	c.text(1, maxPath, &p.Call.Path2)
	c.numbers(1, &p.Call.Flags)
	c.numbers(4, &p.Call.N)
}

func (c *coder) rpcTold(p *api.Packet) {
	c.numbers(1, &p.Op)
	c.errno(&p.Errno)
	c.numbers(1, &p.Inode)
	c.numbers(8, &p.Wrote)
	c.numbers(4, &p.At)
	info, node := &p.Reply.Info, &p.Node
	c.numbers(1, &info.Kind, &info.Links)
	c.numbers(2, &info.Size)
	c.numbers(1, &node.Kind, &node.Links)
	c.numbers(2, &node.Size)
	for k := range node.Blocks {
		c.numbers(1, &node.Blocks[k])
	}
	c.names(&p.Reply.Names)
}

func (c *coder) recall(p *api.Packet) {
	c.numbers(1, &p.Inode)
}

func (c *coder) verb(p *api.Packet) {
	c.numbers(1, &p.Op)
	c.check(p.Op >= api.Put && p.Op <= api.Swap)
}

func (c *coder) errno(e *api.Errno) {
	n := int(*e)
	c.numbers(1, &n)
	*e = api.Errno(n)
}

func (c *coder) names(l *[]string) {
	n := len(*l)
	c.numbers(1, &n)
	c.check(n <= maxNames)
	if c.wrong {
		return
	}
	if !c.putting && n > 0 {
		*l = make([]string, n)
	}
	for i := range *l {
		c.text(1, api.MaxName, &(*l)[i])
	}
}

// numbers goes through numbers of one width.
func (c *coder) numbers(width int, fields ...*int) {
	for _, n := range fields {
		switch {
		case c.wrong:
			return
		case c.putting:
			c.check(num.Fits(*n, width))
			c.b = num.Put(c.b, *n, width)
		default:
			var ok bool
			*n, ok = num.Get(c.b, c.at, width)
			c.check(ok)
			c.at += width
		}
	}
}

// text goes through a string of at most some bytes.
func (c *coder) text(width, most int, s *string) {
	n := len(*s)
	c.numbers(width, &n)
	c.check(n <= most)
	switch {
	case c.wrong:
	case c.putting:
		c.b = append(c.b, *s...)
	case n > len(c.b)-c.at:
		c.wrong = true
	default:
		*s = string(c.b[c.at : c.at+n])
		c.at += n
	}
}

func (c *coder) check(ok bool) {
	c.wrong = c.wrong || !ok
}
