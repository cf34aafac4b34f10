package posix

import (
	"maps"
	"slices"

	"commons/api"
)

// Copy returns an equal file system in memory of its own.
func (f *Fs) Copy() *Fs {
	copies := map[*node]*node{}
	g := &Fs{root: f.root.copied(copies), open: map[descriptor]*node{}}
	for d, n := range f.open {
		g.open[d] = n.copied(copies)
	}
	return g
}

// copied copies each node once, so that a file with several names keeps them.
func (n *node) copied(copies map[*node]*node) *node {
	if c := copies[n]; c != nil {
		return c
	}
	c := &node{kind: n.kind, links: n.links, data: n.data}
	copies[n] = c
	if n.kind == api.Dir {
		c.names = make(map[string]*node, len(n.names))
	}
	for name, child := range n.names {
		c.names[name] = child.copied(copies)
	}
	return c
}

// row tells of one name, or of one descriptor.
type row struct {
	depth int
	name  string
	descriptor
	file int // 0 for a directory; else the file's number
	data string
}

// shape lists a file system in an order that its contents alone determine.
type shape struct {
	rows  []row
	files map[*node]int // in the order in which they are met
}

// Same reports whether both file systems are equal.
func (f *Fs) Same(g *Fs) bool {
	return slices.Equal(f.rows(), g.rows())
}

func (f *Fs) rows() []row {
	s := &shape{files: map[*node]int{}}
	s.add(row{}, f.root)
	for _, d := range slices.SortedFunc(maps.Keys(f.open), descriptor.compare) {
		s.add(row{descriptor: d}, f.open[d])
	}
	return s.rows
}

func (s *shape) add(r row, n *node) {
	if n.kind == api.File {
		if s.files[n] == 0 {
			s.files[n] = len(s.files) + 1
		}
		r.file, r.data = s.files[n], n.data
	}
	s.rows = append(s.rows, r)
	for _, name := range n.sorted() {
		s.add(row{depth: r.depth + 1, name: name}, n.names[name])
	}
}

func (d descriptor) compare(e descriptor) int {
	if d.client != e.client {
		return d.client - e.client
	}
	return d.fd - e.fd
}
