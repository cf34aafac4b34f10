package dir_test

import (
	"math"
	"slices"
	"testing"

	"commons/api"
	"commons/dir"
	"commons/names"
)

func entry(name string, inode int) api.Entry { return api.Entry{Name: name, Inode: inode} }

// with returns the table to which names were added at their places, with the inodes 1, 2 and so on.
func with(l ...string) dir.Table {
	var t dir.Table
	for i, name := range l {
		t = t.Set(t.Place(name), entry(name, i%32+1))
	}
	return t
}

// alike returns n names with the same hash.
func alike(n, hash int) []string {
	var l []string
	for i := 0; len(l) < n; i++ {
		s := string([]byte{byte('a' + i%26), byte('a' + i/26%26), byte('a' + i/676)})
		if names.Hash(s) == hash {
			l = append(l, s)
		}
	}
	return l
}

// P12.1
func TestMay(t *testing.T) {
	for _, e := range []api.Entry{{}, entry("a", 1), entry("abcdefghijkl", 32), entry("...", 7)} {
		if !dir.May(e) {
			t.Error(e)
		}
	}
	for _, e := range []api.Entry{entry("a", 33), entry("a", 0), entry("a", -1), entry("", 1), entry("A", 1), entry(".", 1), entry("..", 1), entry("abcdefghijklm", 1), entry("a/b", 2), entry("a", math.MaxInt), entry("", -1)} {
		if dir.May(e) {
			t.Error(e)
		}
	}
}

// P12.1
func TestFindAndPlace(t *testing.T) {
	var empty dir.Table
	if empty.Find("a") != -1 || empty.Find("") != -1 || empty.Place("a") != 14 || empty.Place("") != 8 {
		t.Error("in the empty table")
	}
	one := empty.Set(14, entry("a", 1))
	if one.Find("a") != 14 || one.Place("a") != 15 || one.Find("b") != -1 || one.Find("") != -1 {
		t.Error("the example")
	}
	l := alike(16, 14)
	table := with(l...)
	for i, name := range l {
		if at := (14 + i) % 16; table.Find(name) != at || table[at] != entry(name, i+1) {
			t.Error(i, name, table.Find(name))
		}
	}
	if table.Place("a") != -1 || table.Place(l[0]) != -1 || table.Place("") != -1 || table.Find("other") != -1 {
		t.Error("a full table")
	}
	gap := table.Set(0, api.Entry{})
	if gap.Place("a") != 0 || gap.Find(l[2]) != -1 || gap.Find(l[3]) != 1 {
		t.Error("names behind a gap", gap.Place("a"), gap.Find(l[3]))
	}
	double := empty.Set(13, entry("a", 1)).Set(1, entry("a", 2)).Set(5, entry("a", 3))
	if double.Find("a") != 1 {
		t.Error("the first of the places", double.Find("a"))
	}
	if empty.Set(14, api.Entry{Inode: 3}).Place("a") != 15 {
		t.Error("an entry without a name is not none")
	}
}

// P12.1
func TestSet(t *testing.T) {
	table := with("a", "b")
	for at := range 16 {
		got := table.Set(at, entry("x", 5))
		for i := range got {
			if want := table[i]; i == at && got[i] != entry("x", 5) || i != at && got[i] != want {
				t.Error(at, i)
			}
		}
	}
	if table != with("a", "b") {
		t.Error("the table was changed")
	}
	for _, at := range []int{-1, 16, 17, math.MaxInt, math.MinInt} {
		if table.Set(at, entry("x", 5)) != table {
			t.Error(at)
		}
	}
}

// P12.2
func TestNames(t *testing.T) {
	if l := (dir.Table{}).Names(); len(l) != 0 {
		t.Error(l)
	}
	if l := with("a", "b", "ab", "c").Names(); !slices.Equal(l, []string{"a", "ab", "b", "c"}) {
		t.Error(l)
	}
	table := dir.Table{2: entry("b", 1), 3: {Inode: 4}, 7: entry("a", 2), 9: entry("b", 3), 11: {Name: "A"}}
	if l := table.Names(); !slices.Equal(l, []string{"A", "a", "b", "b"}) {
		t.Error(l)
	}
}

// P12.2
func TestUsed(t *testing.T) {
	for at := range 16 {
		for i, e := range []api.Entry{entry("a", 1), {Name: "A"}, {Inode: 99}} {
			table := dir.Table{}.Set(at, e)
			for k := -2; k < 7; k++ {
				if table.Used(k) != (k == at/4) {
					t.Error(at, i, k)
				}
			}
		}
	}
	full := with(alike(16, 3)...)
	for _, k := range []int{-1, 4, math.MaxInt, math.MinInt} {
		if full.Used(k) {
			t.Error(k)
		}
	}
}

// P12.3
func TestBlock(t *testing.T) {
	table := dir.Table{4: entry("a", 1), 6: entry("abcdefghijkl", 32)}
	want := slices.Concat([]byte{1, 1, 'a'}, make([]byte, 29), []byte{32, 12}, []byte("abcdefghijkl"), make([]byte, 2+16))
	if b, e := table.Block(1); e != api.OK || !slices.Equal(b, want) {
		t.Error(b, e)
	}
	if b, e := table.Block(0); e != api.OK || !slices.Equal(b, make([]byte, 64)) {
		t.Error(b, e)
	}
	for _, k := range []int{-1, 4, math.MaxInt, math.MinInt} {
		if b, e := table.Block(k); e != api.ErrArg || len(b) > 0 {
			t.Error(k, e)
		}
	}
	for _, bad := range []api.Entry{entry("A", 1), entry("a", 0), entry("a", 33), {Inode: 1}, entry("a", 256), entry("abcdefghijklm", 1)} {
		b, e := table.Set(11, bad).Block(2)
		_, other := table.Set(11, bad).Block(3)
		if e != api.ErrArg || len(b) > 0 || other != api.OK {
			t.Error(bad, e, other)
		}
	}
}

// P12.3
func TestRead(t *testing.T) {
	before := with(alike(16, 9)...)
	table := dir.Table{8: entry("x", 2), 10: entry("y.z", 31)}
	b, _ := table.Block(2)
	got, e := before.Read(2, append(b, 9, 9))
	want := before
	copy(want[8:12], table[8:12])
	if e != api.OK || got != want {
		t.Error(got, e)
	}
	if before != with(alike(16, 9)...) {
		t.Error("the table was changed")
	}
	for _, k := range []int{-1, 4, math.MaxInt, math.MinInt} {
		if got, e := before.Read(k, nil); e != api.ErrArg || got != before {
			t.Error(k, e)
		}
	}
	for _, n := range []int{0, 1, 63} {
		if got, e := before.Read(2, b[:n]); e != api.ErrShort || got != before {
			t.Error(n, e)
		}
	}
}

// P12.3
func TestReadBytes(t *testing.T) {
	before := with("p", "q", "r")
	good, _ := dir.Table{1: entry("ab", 3), 3: entry("abcdefghijkl", 4)}.Block(0)
	for i, c := range []struct {
		at int
		b  []byte
	}{
		{0, []byte{1}}, {1, []byte{1}}, {0, []byte{0, 1, 'a'}}, {2, []byte{7}}, {15, []byte{1}},
		{16, []byte{0}}, {16, []byte{33}}, {16, []byte{255}}, {17, []byte{0}}, {17, []byte{1}}, {17, []byte{3}}, {17, []byte{13}}, {17, []byte{14}}, {17, []byte{15}}, {17, []byte{255}},
		{18, []byte{'A'}}, {18, []byte{0}}, {18, []byte(".."[:2])}, {20, []byte{1}}, {31, []byte{1}},
		{49, []byte{13}}, {49, []byte{11}}, {62, []byte{1}}, {63, []byte{1}},
	} {
		b := slices.Clone(good)
		copy(b[c.at:], c.b)
		if got, e := before.Read(0, b); e != api.ErrBytes || got != before {
			t.Error(i, e)
		}
	}
}

// P12.4
func TestSetIsFound(t *testing.T) {
	var table dir.Table
	l := slices.Concat(alike(5, 15), alike(5, 0), alike(6, 7))
	for i, name := range l {
		at := table.Place(name)
		table = table.Set(at, entry(name, i+1))
		if table.Find(name) != at {
			t.Error(name, at)
		}
		for k, earlier := range l[:i] {
			if table[table.Find(earlier)] != entry(earlier, k+1) {
				t.Error(earlier)
			}
		}
	}
}

// P12.4
func TestThereAndBack(t *testing.T) {
	for n := range 17 {
		table := with(alike(16, n%16)[:n]...)
		var back dir.Table
		for k := range 4 {
			b, e := table.Block(k)
			if e != api.OK || len(b) != 64 {
				t.Fatal(n, k, e)
			}
			if back, e = back.Read(k, b); e != api.OK {
				t.Fatal(n, k, e)
			}
			if again, _ := back.Block(k); !slices.Equal(again, b) {
				t.Fatal(n, k)
			}
		}
		if back != table {
			t.Error(n, back)
		}
	}
}
