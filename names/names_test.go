package names_test

import (
	"slices"
	"strings"
	"testing"

	"commons/api"
	"commons/names"
)

// P5.1
func TestMay(t *testing.T) {
	for _, s := range []string{"a", "z", "0", "9", ".a", "a.", "...", "_", "-", "a.b_c-d", "abcdefghijkl", "-12", "..a"} {
		if !names.May(s) {
			t.Error(s)
		}
	}
	for _, s := range []string{"", ".", "..", "abcdefghijklm", "A", "Z", "a/b", "/", " ", "a b", "a\x00", "\x00", "é", "\xff", "a\x80", "`", "{", ":", "@", ",", "\n", strings.Repeat("a", 5000)} {
		if names.May(s) {
			t.Errorf("%q", s)
		}
	}
	for c := range 256 {
		want := c >= 'a' && c <= 'z' || c >= '0' && c <= '9' || c == '.' || c == '_' || c == '-'
		if names.May("x"+string([]byte{byte(c)})) != want {
			t.Error("byte", c)
		}
	}
}

// P5.1
func TestPath(t *testing.T) {
	for path, want := range map[string][]string{
		"/": nil, "/a": {"a"}, "/a/b.c": {"a", "b.c"}, "/1/2/3/4/5/6": {"1", "2", "3", "4", "5", "6"}, "/abcdefghijkl/...": {"abcdefghijkl", "..."},
	} {
		if l, e := names.Path(path); !slices.Equal(l, want) || e != api.OK {
			t.Error(path, l, e)
		}
	}
	for _, path := range []string{
		"", "a", "a/b", "/a/", "//", "//a", "/a//b", "/A", "/.", "/..", "/a/..", "/a/./b", "/1/2/3/4/5/6/7", "/1/2/3/4/5/6/", "/ a", "/abcdefghijklm", "/a\x00",
		strings.Repeat("/", 100000), strings.Repeat("/a", 100000),
	} {
		if l, e := names.Path(path); len(l) > 0 || e != api.ErrInval {
			t.Errorf("%.40q %v %v", path, l, e)
		}
	}
}

// P5.1
func TestParent(t *testing.T) {
	for path, want := range map[string][]string{"/a": {"a"}, "/a/b": {"a", "b"}, "/a/b/c": {"a", "b", "c"}, "/1/2/3/4/5/6": {"1", "2", "3", "4", "5", "6"}} {
		l, last, e := names.Parent(path)
		if !slices.Equal(append(slices.Clone(l), last), want) || e != api.OK {
			t.Error(path, l, last, e)
		}
		if len(l) != cap(l) {
			t.Error("spare capacity", path)
		}
	}
	for _, path := range []string{"/", "", "a", "/a/", "/A", "/1/2/3/4/5/6/7"} {
		if l, last, e := names.Parent(path); len(l) > 0 || last != "" || e != api.ErrInval {
			t.Error(path, l, last, e)
		}
	}
}

// P5.2
func TestJoin(t *testing.T) {
	for want, l := range map[string][]string{"/": {}, "/a": {"a"}, "/a/b.c": {"a", "b.c"}, "/1/2/3/4/5/6": {"1", "2", "3", "4", "5", "6"}} {
		if path, e := names.Join(l); path != want || e != api.OK {
			t.Error(l, path, e)
		}
	}
	if path, e := names.Join(nil); path != "/" || e != api.OK {
		t.Error("of nothing", path, e)
	}
	for _, l := range [][]string{{"a/b"}, {""}, {"a", ""}, {"."}, {"a", "..", "b"}, {"A"}, {"abcdefghijklm"}, {"1", "2", "3", "4", "5", "6", "7"}} {
		if path, e := names.Join(l); path != "" || e != api.ErrInval {
			t.Error(l, path, e)
		}
	}
}

// P5.2
func TestInside(t *testing.T) {
	for _, c := range [][2]string{{"/a/b", "/a"}, {"/a", "/a"}, {"/", "/"}, {"/a", "/"}, {"/a/b/c/d/e/f", "/a/b"}, {"/1/2/3/4/5/6", "/1/2/3/4/5/6"}} {
		if !names.Inside(c[0], c[1]) {
			t.Error(c)
		}
	}
	for _, c := range [][2]string{
		{"/ab", "/a"}, {"/a", "/ab"}, {"/a", "/a/b"}, {"/", "/a"}, {"/b/a", "/a"}, {"/a/c", "/a/b"},
		{"a", "/"}, {"/a", ""}, {"", ""}, {"/A", "/A"}, {"/a/b", "/a/"}, {"/a/", "/a"}, {"/1/2/3/4/5/6/7", "/1"},
	} {
		if names.Inside(c[0], c[1]) {
			t.Error(c)
		}
	}
}

// P5.3
func TestHash(t *testing.T) {
	if names.Hash("") != 8 || names.Hash("a") != 14 {
		t.Error(names.Hash(""), names.Hash("a"))
	}
	for _, s := range []string{"b", "ab", "abcdefghijkl", "\xff\x80", "é", "A b/", strings.Repeat("x", 1000)} {
		h := uint64(2166136261)
		for _, b := range []byte(s) {
			h = (h ^ uint64(b)) * 16777619 % (1 << 32)
		}
		if got := names.Hash(s); got != int(h/(1<<28)) || got < 0 || got > 15 {
			t.Errorf("%q %d", s, got)
		}
	}
}

// P5.4
func TestPathAndJoin(t *testing.T) {
	for _, path := range []string{"/", "/a", "/a/b", "/.../-/_", "/1/2/3/4/5/6"} {
		l, e := names.Path(path)
		back, f := names.Join(l)
		if back != path || e != api.OK || f != api.OK {
			t.Error(path, l, back)
		}
	}
	for _, l := range [][]string{nil, {"x"}, {"x", "y.z"}, {"1", "2", "3", "4", "5", "6"}} {
		path, e := names.Join(l)
		back, f := names.Path(path)
		if !slices.Equal(back, l) || e != api.OK || f != api.OK {
			t.Error(l, path, back)
		}
	}
}

// R4
func TestResultsAreNew(t *testing.T) {
	arg := []string{"a", "b", "c"}
	names.Join(arg[:2])
	l, _ := names.Path("/a/b")
	l[0] = "x"
	m, _ := names.Path("/a/b")
	p, _, _ := names.Parent("/a/b")
	p[0] = "y"
	if m[0] != "a" || !slices.Equal(arg, []string{"a", "b", "c"}) {
		t.Error(m, arg)
	}
}
