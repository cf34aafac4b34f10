package clock_test

import (
	"math"
	"slices"
	"testing"

	"commons/api"
	"commons/clock"
)

func shows(t *testing.T, c *clock.Clocks, truth int, want ...int) {
	t.Helper()
	if c.True() != truth {
		t.Error("true", c.True(), "instead of", truth)
	}
	for i, n := range want {
		if c.Show(i) != n {
			t.Error("node", i, "shows", c.Show(i), "instead of", n)
		}
	}
}

// P18.1
func TestNew(t *testing.T) {
	for n := 1; n <= 9; n++ {
		c := clock.New(n)
		if c == nil || !c.Kept() {
			t.Fatal(n)
		}
		shows(t, c, 0, make([]int, n)...)
		if c.Pass(8, make([]int, n)) != api.OK || c.Show(n-1) != 8 || c.Show(n) != 0 {
			t.Error(n)
		}
	}
	for _, n := range []int{0, 10, -1, math.MaxInt, math.MinInt} {
		if clock.New(n) != nil {
			t.Error(n)
		}
	}
}

// P18.1 and P18.2: the examples.
func TestPass(t *testing.T) {
	c := clock.New(3)
	if e := c.Pass(8, []int{1, -1}); e != api.OK {
		t.Error(e)
	}
	shows(t, c, 8, 9, 7, 8)
	if e := c.Pass(3, []int{1, -1}); e != api.OK {
		t.Error(e)
	}
	shows(t, c, 11, 12, 9, 11)
	if !c.Kept() {
		t.Error("kept")
	}
	c.Pass(64, nil)
	shows(t, c, 75, 76, 73, 75)
	c.Pass(1, []int{-8, 8, 0})
	shows(t, c, 76, 76, 75, 76)
	if c.Kept() {
		t.Error("not kept")
	}
	c.Pass(1, []int{0, 1, -1})
	if c.Kept() {
		t.Error("kept again")
	}
}

// P18.1: eighths add up, and what is shown is rounded down.
func TestEighths(t *testing.T) {
	c := clock.New(2)
	for i := range 64 {
		shows(t, c, i, i*9/8, i*7/8)
		c.Pass(1, []int{1, -1})
	}
	shows(t, c, 64, 72, 56)
}

// P18.1: what is refused changes nothing.
func TestPassErrors(t *testing.T) {
	c := clock.New(2)
	c.Pass(3, []int{1})
	for i, p := range []struct {
		ticks int
		skew  []int
	}{
		{0, nil}, {-1, nil}, {65, nil}, {math.MaxInt, nil}, {math.MinInt, nil}, {1, []int{9}}, {1, []int{0, -9}}, {1, []int{math.MaxInt}}, {1, []int{math.MinInt, 0}}, {1, []int{0, 0, 0}}, {64, []int{8, 9}},
	} {
		if e := c.Pass(p.ticks, p.skew); e != api.ErrArg {
			t.Error(i, e)
		}
	}
	shows(t, c, 3, 3, 3)
	if !c.Kept() {
		t.Error("kept")
	}
}

// P18.2
func TestShowOfNobody(t *testing.T) {
	c := clock.New(2)
	c.Pass(64, []int{8, 8})
	for _, n := range []int{-1, 2, 9, math.MaxInt, math.MinInt} {
		if c.Show(n) != 0 {
			t.Error(n)
		}
	}
}

// P18.2
func TestKept(t *testing.T) {
	for s := -8; s <= 8; s++ {
		for _, l := range [][]int{{s}, {0, s}, {1, -1, s}} {
			c := clock.New(3)
			if c.Pass(1, l) != api.OK || c.Kept() != (s >= -1 && s <= 1) {
				t.Error(l)
			}
		}
	}
}

// P18.3 and P18.4
func TestDrift(t *testing.T) {
	seed := uint32(5)
	next := func(n int) int {
		seed = seed*1664525 + 1013904223
		return int(seed>>8) % n
	}
	for bound := range 9 {
		c := clock.New(4)
		var truth, shown []int
		for range 200 {
			truth, shown = append(truth, c.True()), append(shown, c.Show(2))
			skew := []int{0, 1, next(2*bound+1) - bound}
			kept := slices.Clone(skew)
			if c.Pass(1+next(20), skew) != api.OK || !slices.Equal(skew, kept) {
				t.Fatal("pass")
			}
			for i, at := range truth {
				d, moved := c.True()-at, c.Show(2)-shown[i]
				if moved < 0 {
					t.Fatal("backwards")
				}
				if c.Kept() && (8*moved >= 9*d+8 || 8*moved <= 7*d-8) {
					t.Fatal("drift", d, moved)
				}
			}
		}
	}
}
