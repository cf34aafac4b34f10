package net_test

import (
	"math"
	"slices"
	"strconv"
	"testing"

	"commons/api"
	"commons/net"
)

// sent returns a bag with a packet to each of some nodes, whose bytes are their places: 0, 1 and so on.
func sent(t *testing.T, to ...int) *net.Bag {
	t.Helper()
	b := net.New()
	for i, n := range to {
		if !b.Send(n, []byte(strconv.Itoa(i))) {
			t.Error(n)
		}
	}
	return b
}

// holds checks a bag's packets.
func holds(t *testing.T, b *net.Bag, want ...string) {
	t.Helper()
	var l []string
	for k := range b.Len() {
		to, data, ok := b.Take(k, true)
		if !ok {
			t.Error(k)
		}
		l = append(l, strconv.Itoa(to)+":"+string(data))
	}
	if !slices.Equal(l, want) {
		t.Error(l, "instead of", want)
	}
}

var nowhere = []int{-1, 9, 10, math.MaxInt, math.MinInt}

// P21.1
func TestSend(t *testing.T) {
	b := net.New()
	holds(t, b)
	for _, n := range nowhere {
		if b.Send(n, nil) {
			t.Error(n)
		}
	}
	if b.Len() != 0 {
		t.Error(b.Len())
	}
	for n := range 9 {
		if !b.Send(n, nil) || b.Len() != n+1 {
			t.Error(n)
		}
	}
	for b.Len() < api.MaxPackets {
		if !b.Send(3, []byte("x")) {
			t.Fatal(b.Len())
		}
	}
	if b.Send(3, []byte("x")) || b.Len() != 200 {
		t.Error(b.Len())
	}
	b.Drop(7)
	if !b.Send(3, []byte("y")) || b.Len() != 200 {
		t.Error("after Drop", b.Len())
	}
	if _, data, _ := b.Take(199, false); string(data) != "y" {
		t.Error("not the youngest one", data)
	}
}

// P21.2
func TestTake(t *testing.T) {
	b := sent(t, 1, 2, 0, 8)
	for _, k := range []int{-1, 4, 5, math.MaxInt, math.MinInt} {
		for _, stay := range []bool{false, true} {
			if to, data, ok := b.Take(k, stay); to != 0 || len(data) > 0 || ok {
				t.Error(k)
			}
		}
		if b.Drop(k) {
			t.Error(k)
		}
	}
	if to, data, ok := b.Take(1, true); to != 2 || string(data) != "1" || !ok || b.Len() != 4 {
		t.Error(to, data, b.Len())
	}
	if to, data, ok := b.Take(1, false); to != 2 || string(data) != "1" || !ok {
		t.Error(to, data)
	}
	holds(t, b, "1:0", "0:2", "8:3")
	if to, data, ok := b.Take(2, false); to != 8 || string(data) != "3" || !ok {
		t.Error(to, data)
	}
	if to, data, ok := b.Take(0, false); to != 1 || string(data) != "0" || !ok {
		t.Error(to, data)
	}
	holds(t, b, "0:2")
}

// P21.2
func TestDrop(t *testing.T) {
	b := sent(t, 1, 2, 3, 4)
	if !b.Drop(1) || !b.Drop(2) || b.Drop(2) {
		t.Error("drop")
	}
	holds(t, b, "1:0", "3:2")
}

// P21.2
func TestTo(t *testing.T) {
	b := sent(t, 3, 0, 3, 8)
	for n, want := range map[int][]int{3: {0, 2}, 0: {1}, 8: {3}, 1: nil, -1: nil, 9: nil, math.MaxInt: nil} {
		if l := b.To(n); !slices.Equal(l, want) {
			t.Error(n, l)
		}
	}
}

// P21.2
func TestLose(t *testing.T) {
	b := sent(t, 3, 0, 3, 8, 3)
	for _, n := range append(nowhere, 1) {
		b.Lose(n)
	}
	if b.Len() != 5 {
		t.Error(b.Len())
	}
	b.Lose(3)
	holds(t, b, "0:1", "8:3")
	b.Lose(0)
	b.Lose(8)
	holds(t, b)
	if !b.Send(3, []byte("x")) {
		t.Error("after Lose")
	}
	holds(t, b, "3:x")
}

// P21.3, and R4: the bytes are those that were sent.
func TestBytesAreOwn(t *testing.T) {
	b := net.New()
	data := []byte("abc")
	b.Send(1, data)
	data[0] = 'X'
	_, got, _ := b.Take(0, true)
	got[1] = 'X'
	holds(t, b, "1:abc")
}

// P21.3
func TestOrder(t *testing.T) {
	b := net.New()
	var want []string
	seed := uint32(1)
	next := func(n int) int {
		seed = seed*1664525 + 1013904223
		return int(seed>>8) % n
	}
	for i := range 3000 {
		k := next(len(want) + 2)
		switch next(5) {
		case 0, 1:
			n := next(9)
			if b.Send(n, []byte(strconv.Itoa(i))) {
				want = append(want, strconv.Itoa(n)+":"+strconv.Itoa(i))
			}
		case 2:
			to, data, ok := b.Take(k, false)
			if ok != (k < len(want)) || ok && strconv.Itoa(to)+":"+string(data) != want[k] {
				t.Fatal(i, to, data)
			}
			if ok {
				want = slices.Delete(want, k, k+1)
			}
		case 3:
			if b.Drop(k) {
				want = slices.Delete(want, k, k+1)
			}
		case 4:
			if n := next(60); n < 9 {
				b.Lose(n)
				want = slices.DeleteFunc(want, func(s string) bool { return s[0] == byte('0'+n) })
			}
		}
		holds(t, b, want...)
	}
}
