package bits_test

import (
	"math"
	"slices"
	"testing"

	"commons/api"
	"commons/bits"
)

// taken returns the map with some blocks.
func taken(l ...int) bits.Map {
	var m bits.Map
	for _, n := range l {
		m = m.Take(n)
	}
	return m
}

var none = []int{0, -1, 129, 130, 1000, math.MaxInt, math.MinInt}

// P10.1
func TestReadAndBytes(t *testing.T) {
	b := []byte{1, 2, 3, 4, 5, 6, 7, 8, 9, 10, 11, 12, 13, 14, 15, 255, 99}
	m, e := bits.Read(b)
	if e != api.OK || !slices.Equal(m.Bytes(), b[:16]) || m != bits.Map(b[:16]) {
		t.Error(m, e)
	}
	if m, e := bits.Read(b[:16]); e != api.OK || !slices.Equal(m.Bytes(), b[:16]) {
		t.Error(m, e)
	}
	for _, n := range []int{0, 1, 15} {
		if m, e := bits.Read(b[:n]); e != api.ErrShort || m != (bits.Map{}) {
			t.Error(n, m, e)
		}
	}
	m.Bytes()[0] = 77
	b[1] = 77
	if m[0] != 1 || m[1] != 2 {
		t.Error("shared")
	}
}

// P10.1
func TestBitsOfBlocks(t *testing.T) {
	for n := 1; n <= 128; n++ {
		want := make([]byte, 16)
		want[(n-1)/8] = 1 << ((n - 1) % 8)
		if m := taken(n); !slices.Equal(m.Bytes(), want) || !m.Used(n) || m.Give(n) != (bits.Map{}) {
			t.Error(n, m)
		}
	}
	m := taken(1, 9, 128)
	if m[0] != 1 || m[1] != 1 || m[15] != 128 || m.Give(9) != taken(1, 128) {
		t.Error(m)
	}
	if taken(9)[1] != 1 {
		t.Error("the chapter's example")
	}
}

// P10.1
func TestTakeAndGive(t *testing.T) {
	m := taken(2, 3, 64)
	if m.Take(3) != m || m.Give(4) != m || m.Take(5) != taken(2, 3, 5, 64) || m.Give(3) != taken(2, 64) {
		t.Error(m)
	}
	if m != taken(2, 3, 64) {
		t.Error("the map was changed")
	}
	for _, n := range none {
		if m.Used(n) || m.Take(n) != m || m.Give(n) != m {
			t.Error(n)
		}
	}
}

// P10.2
func TestFirst(t *testing.T) {
	full := bits.Map{}
	for n := range 128 {
		full = full.Take(n + 1)
	}
	for i, c := range []struct {
		m          bits.Map
		from, want int
	}{
		{taken(1, 9, 128), 9, 10}, {taken(1, 9, 128), 128, 0}, {taken(1, 9, 128), 127, 127}, {taken(1, 9, 128), 1, 2},
		{taken(1, 9, 128), 0, 2}, {taken(1, 9, 128), -5, 2}, {taken(1, 9, 128), math.MinInt, 2},
		{taken(1, 9, 128), 129, 0}, {taken(1, 9, 128), math.MaxInt, 0}, {taken(1, 9, 128), 10, 10}, {taken(1, 9, 128), 2, 2},
		{taken(1, 2), 1, 3}, {bits.Map{}, 1, 1}, {bits.Map{}, 128, 128}, {full, 1, 0}, {full.Give(128), 1, 128}, {full.Give(5), 6, 0},
	} {
		if got := c.m.First(c.from); got != c.want {
			t.Error(i, got)
		}
	}
}

// P10.2
func TestCountAndAll(t *testing.T) {
	for _, l := range [][]int{{}, {1}, {128}, {1, 9, 128}, {8, 9, 16, 17, 64, 65}} {
		m := taken(l...)
		if m.Count() != len(l) || !slices.Equal(m.All(), l) {
			t.Error(l, m.Count(), m.All())
		}
	}
	full := bits.Map{255, 255, 255, 255, 255, 255, 255, 255, 255, 255, 255, 255, 255, 255, 255, 255}
	if full.Count() != 128 || len(full.All()) != 128 || full.All()[127] != 128 {
		t.Error(full.All())
	}
}

// P10.2
func TestWithout(t *testing.T) {
	a, b := taken(1, 2, 9, 128), taken(2, 3, 128)
	if a.Without(b) != taken(1, 9) || b.Without(a) != taken(3) || a.Without(bits.Map{}) != a || a.Without(a) != (bits.Map{}) {
		t.Error(a.Without(b).All(), b.Without(a).All())
	}
	if a != taken(1, 2, 9, 128) || b != taken(2, 3, 128) {
		t.Error("the arguments were changed")
	}
}

// P10.3
func TestTakenIsUsed(t *testing.T) {
	m, want := bits.Map{}, map[int]bool{}
	seed := uint32(1)
	for i := range 3000 {
		seed = seed*1664525 + 1013904223
		n := int(seed>>8)%132 - 1
		before := m
		if seed>>30 == 0 {
			m = m.Give(n)
			delete(want, n)
		} else {
			m = m.Take(n)
			if n >= 1 && n <= 128 {
				want[n] = true
			}
		}
		if (before == m) != slices.Equal(before.All(), m.All()) {
			t.Fatal(i, "equal without having the same blocks, or the other way round")
		}
		for k := -1; k < 132; k++ {
			if m.Used(k) != want[k] {
				t.Fatal(i, k)
			}
		}
	}
}
