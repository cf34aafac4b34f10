package num_test

import (
	"math"
	"slices"
	"testing"

	"commons/num"
)

// greatest holds, for each width, the greatest number that fits.
var greatest = map[int]int{1: 255, 2: 65535, 4: 1<<32 - 1, 8: math.MaxInt}

// P1.1
func TestFits(t *testing.T) {
	for w, n := range greatest {
		if !num.Fits(0, w) || !num.Fits(1, w) || !num.Fits(n, w) {
			t.Error("must fit", w)
		}
		if num.Fits(-1, w) || num.Fits(math.MinInt, w) {
			t.Error("negative", w)
		}
		if w < 8 && num.Fits(n+1, w) {
			t.Error("too great", w)
		}
	}
	for _, w := range []int{0, 3, 5, 6, 7, 9, 16, 64, -1, -8, math.MinInt, math.MaxInt} {
		if num.Fits(0, w) || num.Fits(1, w) {
			t.Error("no width", w)
		}
	}
}

// P1.1
func TestPut(t *testing.T) {
	for i, c := range []struct {
		b        []byte
		n, width int
		want     []byte
	}{
		{nil, 258, 4, []byte{2, 1, 0, 0}},
		{nil, 0, 1, []byte{0}},
		{[]byte{7, 8}, 0x0102, 2, []byte{7, 8, 2, 1}},
		{[]byte{7}, 0x0102030405060708, 8, []byte{7, 8, 7, 6, 5, 4, 3, 2, 1}},
		{nil, math.MaxInt, 8, []byte{255, 255, 255, 255, 255, 255, 255, 127}},
		{[]byte{7, 8}, 256, 1, []byte{7, 8}},
		{[]byte{7, 8}, -1, 8, []byte{7, 8}},
		{[]byte{7, 8}, 1, 3, []byte{7, 8}},
		{[]byte{7, 8}, 1 << 32, 4, []byte{7, 8}},
		{nil, 1, 0, nil},
	} {
		if got := num.Put(c.b, c.n, c.width); !slices.Equal(got, c.want) {
			t.Error(i, got)
		}
	}
}

// P1.1 and R4: spare capacity stays, and results are new memory.
func TestPutKeepsCapacity(t *testing.T) {
	all := []byte{1, 2, 3, 4, 5, 6}
	r := num.Put(all[:2], 9, 4)
	r[0] = 99
	if !slices.Equal(all, []byte{1, 2, 3, 4, 5, 6}) {
		t.Error(all)
	}
	r = num.Put(all[:2], -1, 4)
	r[0] = 99
	if all[0] != 1 {
		t.Error("shared with the argument")
	}
}

// P1.2
func TestGet(t *testing.T) {
	b := []byte{2, 1, 0, 0, 255, 255, 255, 127, 128}
	for i, c := range []struct {
		at, width, want int
		ok              bool
	}{
		{0, 2, 258, true}, {0, 4, 258, true}, {0, 1, 2, true}, {1, 2, 1, true},
		{8, 1, 128, true}, {7, 2, 0x807F, true}, {0, 8, 0x7FFFFFFF00000102, true},
		{1, 8, 0, false}, {8, 2, 0, false}, {9, 1, 0, false}, {6, 4, 0, false},
		{-1, 1, 0, false}, {math.MinInt, 8, 0, false}, {math.MaxInt, 8, 0, false},
		{0, 0, 0, false}, {0, 3, 0, false}, {0, -1, 0, false}, {0, 16, 0, false},
	} {
		if n, ok := num.Get(b, c.at, c.width); n != c.want || ok != c.ok {
			t.Error(i, n, ok)
		}
	}
	if n, ok := num.Get(nil, 0, 1); n != 0 || ok {
		t.Error("of nothing", n, ok)
	}
}

// P1.2
func TestSet(t *testing.T) {
	b := []byte{1, 2, 3, 4, 5}
	if !num.Set(b, 1, 513, 2) || !slices.Equal(b, []byte{1, 1, 2, 4, 5}) {
		t.Error(b)
	}
	if !num.Set(b, 1, 7, 4) || !slices.Equal(b, []byte{1, 7, 0, 0, 0}) {
		t.Error(b)
	}
	for i, c := range [][3]int{{4, 1, 2}, {0, 256, 1}, {-1, 1, 1}, {5, 1, 1}, {0, 1, 3}, {0, -1, 1}, {0, 1, 8}, {math.MaxInt, 1, 4}, {math.MinInt, 1, 4}} {
		if num.Set(b[:5:5], c[0], c[1], c[2]) {
			t.Error(i)
		}
	}
	if !slices.Equal(b, []byte{1, 7, 0, 0, 0}) {
		t.Error("a refused Set changed", b)
	}
}

// P1.3
func TestUpDown(t *testing.T) {
	const top = 1 << 60
	for i, c := range [][4]int{
		{65, 64, 128, 64}, {64, 64, 64, 64}, {63, 64, 64, 0}, {0, 64, 0, 0}, {1, 64, 64, 0},
		{10, 3, 12, 9}, {9, 1, 9, 9}, {5, 1 << 30, 1 << 30, 0}, {top, 64, top, top},
		{top, 7, top + 6, top - 1}, {top - 1, 1 << 30, top, top - 1<<30},
		{top + 1, 64, top + 1, top + 1}, {5, 1<<30 + 1, 5, 5}, {5, 0, 5, 5}, {5, -8, 5, 5}, {-5, 8, -5, -5},
		{math.MaxInt, 8, math.MaxInt, math.MaxInt}, {math.MinInt, math.MinInt, math.MinInt, math.MinInt},
	} {
		if up, down := num.Up(c[0], c[1]), num.Down(c[0], c[1]); up != c[2] || down != c[3] {
			t.Error(i, up, down)
		}
	}
}

// P1.3
func TestRotate(t *testing.T) {
	for i, c := range []struct {
		x    uint32
		n    int
		want uint32
	}{
		{1 << 31, 1, 1}, {0x12345678, 8, 0x34567812}, {5, 0, 5}, {5, 32, 5}, {1, 33, 2}, {3, 31, 0x80000001},
		{1, -1, 1}, {1, -2, 2}, {1, -32, 1 << 31}, {1, -33, 1}, {1, math.MinInt, 1 << 31}, {1, math.MaxInt, 1 << 31},
	} {
		if got := num.Rotate(c.x, c.n); got != c.want {
			t.Error(i, got)
		}
	}
}

// P1.4
func TestThereAndBack(t *testing.T) {
	seen := map[string]int{}
	for w, top := range greatest {
		for _, n := range []int{0, 1, 2, 127, 128, 255, 256, 65535, 1 << 31, top / 3, top - 1, top} {
			if !num.Fits(n, w) {
				continue
			}
			b := num.Put(nil, n, w)
			if got, ok := num.Get(b, 0, w); got != n || !ok || len(b) != w {
				t.Error(w, n, got, ok)
			}
			if m, ok := seen[string(b)]; ok && m != n {
				t.Error("the same bytes of", m, n)
			}
			seen[string(b)] = n
			c := make([]byte, w)
			if !num.Set(c, 0, n, w) || !slices.Equal(b, c) {
				t.Error(w, n, b, c)
			}
		}
	}
}
