package lines

import (
	"slices"
	"strconv"
	"strings"
)

const (
	none      = "-" // stands for no bytes, and for no names
	stayWord  = "stay"
	hexDigits = "0123456789abcdef"
	maxNumber = 999999999
	maxBytes  = 200
)

// coder goes through the words of a line, and reads or writes each of them, so
// that one form serves both ways.
type coder struct {
	reading bool
	words   []string // those that are left to be read, or those that were written
	bad     bool
}

// choose lets the form of the next word go through what follows it. At most
// one form can write something, since each is of a kind of its own.
func choose[T any](c *coder, forms map[string]func(*coder, *T), x *T) {
	if c.reading {
		if form := forms[c.next()]; form != nil {
			form(c, x)
		} else {
			c.bad = true
		}
		return
	}
	for name, form := range forms {
		w := &coder{words: append(slices.Clone(c.words), name)}
		if form(w, x); !w.bad {
			c.words = w.words
			return
		}
	}
	c.bad = true
}

// next returns the next word that is read.
func (c *coder) next() string {
	if len(c.words) == 0 || c.words[0] == "" {
		c.bad = true
		return ""
	}
	w := c.words[0]
	c.words = c.words[1:]
	return w
}

// kind reads nothing: the form's word stands for the kind.
func (c *coder) kind(k *int, is int) {
	if c.reading {
		*k = is
	}
	c.bad = c.bad || *k != is
}

func (c *coder) word(s *string) {
	if c.reading {
		*s = c.next()
		return
	}
	c.words = append(c.words, *s)
}

func (c *coder) number(n *int) {
	if !c.reading {
		c.words = append(c.words, strconv.Itoa(*n))
		return
	}
	w := c.next()
	got, err := strconv.Atoi(w)
	if err != nil || strconv.Itoa(got) != w || got < -maxNumber || got > maxNumber {
		c.bad = true
		return
	}
	*n = got
}

// numbers goes through all numbers that are left.
func (c *coder) numbers(l *[]int) {
	for c.reading && !c.bad && len(c.words) > 0 {
		var n int
		c.number(&n)
		*l = append(*l, n)
	}
	for i := 0; !c.reading && i < len(*l); i++ {
		c.number(&(*l)[i])
	}
}

func (c *coder) stay(is *bool) {
	switch {
	case !c.reading && *is:
		c.words = append(c.words, stayWord)
	case c.reading && len(c.words) > 0:
		*is = true
		c.bad = c.bad || c.next() != stayWord
	}
}

func (c *coder) bytes(b *[]byte) {
	if !c.reading {
		c.words = append(c.words, showBytes(*b))
		return
	}
	w := c.next()
	if w == none {
		return
	}
	for i := 0; i < len(w); i += 2 {
		high := strings.IndexByte(hexDigits, w[i])
		low := -1
		if i+1 < len(w) {
			low = strings.IndexByte(hexDigits, w[i+1])
		}
		if high < 0 || low < 0 {
			c.bad = true
			return
		}
		*b = append(*b, byte(high<<4|low))
	}
	c.bad = c.bad || len(*b) > maxBytes
}

// showBytes returns bytes of any number as two digits each.
func showBytes(b []byte) string {
	if len(b) == 0 {
		return none
	}
	var s strings.Builder
	for _, x := range b {
		s.WriteByte(hexDigits[x>>4])
		s.WriteByte(hexDigits[x&15])
	}
	return s.String()
}
