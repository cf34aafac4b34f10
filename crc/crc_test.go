package crc_test

import (
	"hash/crc32"
	"slices"
	"testing"

	"commons/crc"
)

// noise returns n bytes of a fixed sequence that looks random.
func noise(n int, seed uint32) []byte {
	b := make([]byte, n)
	for i := range b {
		seed = seed*1664525 + 1013904223
		b[i] = byte(seed >> 24)
	}
	return b
}

// P2.1
func TestSum(t *testing.T) {
	for text, want := range map[string]uint32{
		"": 0, "a": 0xE8B7BE43, "123456789": 0xCBF43926, "\x00": 0xD202EF8D, "\xff\xff\xff\xff": 0xFFFFFFFF,
	} {
		if got := crc.Sum([]byte(text)); got != want {
			t.Errorf("%q: %x", text, got)
		}
	}
	if crc.Sum(nil) != 0 {
		t.Error("of nothing")
	}
	for n := range 300 {
		b := noise(n, uint32(n))
		if crc.Sum(b) != crc32.ChecksumIEEE(b) {
			t.Error("not the standard sum", n)
		}
	}
}

// P2.1 and R4
func TestSumKeepsBytes(t *testing.T) {
	b := noise(40, 1)
	c := slices.Clone(b)
	crc.Sum(b)
	crc.New().Add(b)
	if !slices.Equal(b, c) {
		t.Error("the argument was changed")
	}
}

// P2.2
func TestHasher(t *testing.T) {
	h := crc.New()
	if h.Sum() != 0 {
		t.Error("of a new one", h.Sum())
	}
	for i := range "123456789" {
		h.Add([]byte("123456789")[i : i+1])
	}
	if h.Sum() != 0xCBF43926 || h.Sum() != 0xCBF43926 {
		t.Errorf("%x", h.Sum())
	}
	h.Add([]byte("0"))
	if h.Sum() != crc.Sum([]byte("1234567890")) {
		t.Error("after a Sum")
	}
	h.Reset()
	if h.Sum() != 0 {
		t.Error("after Reset", h.Sum())
	}
	h.Add([]byte("a"))
	if h.Sum() != 0xE8B7BE43 {
		t.Error("after Reset and Add")
	}
}

// P2.2: hashers are apart from each other.
func TestTwoHashers(t *testing.T) {
	a, b := crc.New(), crc.New()
	a.Add([]byte("a"))
	b.Add([]byte("123456789"))
	if a.Sum() != 0xE8B7BE43 || b.Sum() != 0xCBF43926 {
		t.Error(a.Sum(), b.Sum())
	}
}

// P2.3
func TestParts(t *testing.T) {
	b := noise(64, 5)
	want := crc.Sum(b)
	for i := range len(b) + 1 {
		for j := i; j <= len(b); j += 7 {
			h := crc.New()
			h.Add(b[:i])
			h.Add(b[i:j])
			h.Add(nil)
			h.Add(b[j:])
			if h.Sum() != want {
				t.Fatal(i, j)
			}
		}
	}
}

// P2.4
func TestBursts(t *testing.T) {
	b := noise(24, 9)
	want := crc.Sum(b)
	for from := 0; from <= len(b)*8-32; from++ {
		for i, burst := range []uint32{1, 0x80000001, 0xFFFFFFFF, 0xEDB88320, 0x12345679} {
			c := slices.Clone(b)
			for k := range 32 {
				c[(from+k)/8] ^= byte(burst>>k&1) << ((from + k) % 8)
			}
			if crc.Sum(c) == want {
				t.Fatal(from, i)
			}
		}
	}
}
