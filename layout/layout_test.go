package layout_test

import (
	"math"
	"testing"

	"commons/layout"
)

// all returns the parts as the document lists them.
func all() []layout.Part {
	var l []layout.Part
	at := 0
	add := func(kind, first, last, size int) {
		for n := first; n <= last; n++ {
			l = append(l, layout.Part{Kind: kind, Number: n, At: at, Size: size})
			at += size
		}
	}
	add(layout.Head, 0, 0, 64)
	add(layout.Slots, 1, 8, 64)
	add(layout.Bits, 0, 0, 64)
	add(layout.Nodes, 1, 32, 64)
	add(layout.Log, 0, 0, 4096)
	add(layout.Logs, 1, 8, 1024)
	add(layout.Data, 1, 128, 64)
	return l
}

// P4.1
func TestSize(t *testing.T) {
	if layout.Size() != 23168 || layout.Root != 1 {
		t.Error(layout.Size(), layout.Root)
	}
	if layout.Head != 1 || layout.Slots != 2 || layout.Bits != 3 || layout.Nodes != 4 || layout.Log != 5 || layout.Logs != 6 || layout.Data != 7 {
		t.Error("kinds")
	}
}

// P4.1
func TestFind(t *testing.T) {
	for _, want := range all() {
		if p, ok := layout.Find(want.Kind, want.Number); p != want || !ok {
			t.Error(p, want)
		}
	}
	for _, c := range [][2]int{
		{1, 1}, {1, -1}, {2, 0}, {2, 9}, {3, 1}, {4, 0}, {4, 33}, {5, 1}, {6, 0}, {6, 9}, {7, 0}, {7, 129},
		{0, 0}, {0, 1}, {8, 0}, {8, 1}, {-1, 1}, {2, -1}, {math.MaxInt, 1}, {2, math.MinInt},
	} {
		if p, ok := layout.Find(c[0], c[1]); p != (layout.Part{}) || ok {
			t.Error(c, p)
		}
	}
}

// P4.1: the examples.
func TestExamples(t *testing.T) {
	for _, c := range [][3]int{{layout.Slots, 1, 64}, {layout.Nodes, 1, 640}, {layout.Log, 0, 2688}, {layout.Logs, 2, 7808}, {layout.Data, 128, 23104}} {
		if p, ok := layout.Find(c[0], c[1]); p.At != c[2] || !ok {
			t.Error(c, p)
		}
	}
}

// P4.1
func TestOf(t *testing.T) {
	for _, want := range all() {
		for _, at := range []int{want.At, want.At + 1, want.At + want.Size/2, want.At + want.Size - 1} {
			if p, ok := layout.Of(at); p != want || !ok {
				t.Error(at, p, want)
			}
		}
	}
	for _, at := range []int{-1, 23168, 23169, math.MaxInt, math.MinInt} {
		if p, ok := layout.Of(at); p != (layout.Part{}) || ok {
			t.Error(at, p)
		}
	}
}

// P4.1
func TestIn(t *testing.T) {
	p := layout.Part{Kind: 9, Number: 9, At: 100, Size: 10}
	for i, c := range []struct {
		p     layout.Part
		at, n int
		want  bool
	}{
		{p, 100, 10, true}, {p, 100, 0, true}, {p, 110, 0, true}, {p, 109, 1, true}, {p, 105, 5, true}, {p, 105, 0, true},
		{p, 99, 1, false}, {p, 99, 0, false}, {p, 110, 1, false}, {p, 111, 0, false}, {p, 101, 10, false}, {p, 100, 11, false},
		{p, 105, -1, false}, {p, 100, -10, false}, {p, 100, math.MaxInt, false}, {p, math.MaxInt, math.MaxInt, false},
		{p, math.MinInt, 1, false}, {p, 105, math.MinInt, false},
		{layout.Part{}, 0, 0, true}, {layout.Part{}, 0, 1, false},
		{layout.Part{At: -5, Size: 10}, -5, 10, true}, {layout.Part{At: -5, Size: 10}, 5, 0, true}, {layout.Part{At: -5, Size: 10}, 5, 1, false},
		{layout.Part{At: 5, Size: -2}, 5, 0, false}, {layout.Part{At: 5, Size: -2}, 3, 0, false}, {layout.Part{At: 5, Size: -2}, 4, 1, false},
		{layout.Part{At: math.MinInt, Size: 5}, math.MaxInt, 0, false}, {layout.Part{At: math.MinInt, Size: 5}, math.MinInt, 5, true},
		{layout.Part{At: math.MaxInt - 4, Size: 4}, math.MaxInt, 0, true}, {layout.Part{At: math.MaxInt - 4, Size: 4}, math.MaxInt - 1, 1, true},
	} {
		if got := layout.In(c.p, c.at, c.n); got != c.want {
			t.Error(i, got)
		}
	}
}

// P4.2
func TestEachByteInOnePart(t *testing.T) {
	parts := all()
	for at := range layout.Size() {
		count := 0
		for _, p := range parts {
			if layout.In(p, at, 1) {
				count++
			}
		}
		p, ok := layout.Of(at)
		q, found := layout.Find(p.Kind, p.Number)
		if count != 1 || !ok || !found || p != q || !layout.In(p, at, 1) || p.At%64 != 0 {
			t.Fatal(at, count, p, q)
		}
	}
}
