package lines_test

import (
	"bytes"
	"reflect"
	"slices"
	"strconv"
	"strings"
	"testing"

	"commons/api"
	"commons/chance"
	"commons/lines"
)

func same(a, b api.Step) bool {
	l := slices.Equal(a.Skew, b.Skew) && slices.Equal(a.Picks, b.Picks) && bytes.Equal(a.Data, b.Data)
	a.Skew, a.Picks, a.Data, b.Skew, b.Picks, b.Data = nil, nil, nil, nil, nil, nil
	return l && reflect.DeepEqual(a, b)
}

func call(node int, c api.Call) api.Step { return api.Step{Op: api.StepCall, Node: node, Call: c} }

var long = strings.Repeat("0f", 200)

// forms are lines with the steps that they denote.
var forms = []struct {
	line string
	step api.Step
}{
	{"pass 5", api.Step{Op: api.StepPass, N: 5}},
	{"pass -1 0 1 -8 999999999 -999999999", api.Step{Op: api.StepPass, N: -1, Skew: []int{0, 1, -8, 999999999, -999999999}}},
	{"deliver 7", api.Step{Op: api.StepDeliver, N: 7}},
	{"deliver 0 stay", api.Step{Op: api.StepDeliver, Stay: true}},
	{"drop -3", api.Step{Op: api.StepDrop, N: -3}},
	{"inject 2 -", api.Step{Op: api.StepInject, Node: 2}},
	{"inject 0 00ff7a", api.Step{Op: api.StepInject, Data: []byte{0, 255, 'z'}}},
	{"inject -9 " + long, api.Step{Op: api.StepInject, Node: -9, Data: bytes.Repeat([]byte{15}, 200)}},
	{"crash 1", api.Step{Op: api.StepCrash, Node: 1}},
	{"crash 0 1 0 -2", api.Step{Op: api.StepCrash, Picks: []int{1, 0, -2}}},
	{"start 3", api.Step{Op: api.StepStart, Node: 3}},
	{"evict 361", api.Step{Op: api.StepEvict, N: 361}},
	{"calm 9", api.Step{Op: api.StepCalm, N: 9}},
	{"call 1 open /a 1", call(1, api.Call{Kind: api.Open, Path: "/a", Flags: 1})},
	{"call 2 close 3", call(2, api.Call{Kind: api.Close, Fd: 3})},
	{"call 2 read 3 40 64", call(2, api.Call{Kind: api.Read, Fd: 3, Off: 40, N: 64})},
	{"call 2 write 3 -1 -", call(2, api.Call{Kind: api.Write, Fd: 3, Off: -1})},
	{"call 2 write 3 5 68656c6c6f", call(2, api.Call{Kind: api.Write, Fd: 3, Off: 5, Data: "hello"})},
	{"call 2 write 3 5 " + long, call(2, api.Call{Kind: api.Write, Fd: 3, Off: 5, Data: strings.Repeat("\x0f", 200)})},
	{"call 2 trunc 3 256", call(2, api.Call{Kind: api.Trunc, Fd: 3, N: 256})},
	{"call 2 sync -3", call(2, api.Call{Kind: api.Sync, Fd: -3})},
	{"call 2 mkdir bad", call(2, api.Call{Kind: api.Mkdir, Path: "bad"})},
	{"call 2 rmdir #", call(2, api.Call{Kind: api.Rmdir, Path: "#"})},
	{"call 2 link /a /b", call(2, api.Call{Kind: api.Link, Path: "/a", Path2: "/b"})},
	{"call 2 unlink -", call(2, api.Call{Kind: api.Unlink, Path: "-"})},
	{"call 2 rename stay 7", call(2, api.Call{Kind: api.Rename, Path: "stay", Path2: "7"})},
	{"call 2 list /\t\r\xff", call(2, api.Call{Kind: api.List, Path: "/\t\r\xff"})},
	{"call 2 stat /", call(2, api.Call{Kind: api.Stat, Path: "/"})},
}

// P26.1
func TestParse(t *testing.T) {
	for _, f := range forms {
		for _, end := range []string{"", "\n", "\n\n", "\n# more"} {
			l, n, e := lines.Parse(f.line + end)
			if len(l) != 1 || n != 0 || e != api.OK || !same(l[0], f.step) {
				t.Errorf("%q: %+v %d %d", f.line+end, l, n, e)
			}
		}
	}
	l, n, e := lines.Parse("\n# a comment\n#\ncalm 1\n\n#calm 2\ndrop 3")
	if len(l) != 2 || n != 0 || e != api.OK || l[0].Op != api.StepCalm || l[1].N != 3 {
		t.Error(l, n, e)
	}
	for _, text := range []string{"", "\n", "\n\n\n", "#", "# pass"} {
		if l, n, e := lines.Parse(text); len(l) != 0 || n != 0 || e != api.OK {
			t.Errorf("%q %v %d %d", text, l, n, e)
		}
	}
}

// P26.1
func TestParseErrors(t *testing.T) {
	for _, line := range []string{
		"pass", "pass 01", "pass 00", "pass -0", "pass +1", "pass -", "pass 1 x", "pass 1  2", "pass 1 ", " pass 1", "pass 1000000000", "pass -1000000000", "pass 99999999999999999999", "pass 1 01", "pass 0x1", "pass 1_0", "pass 1.0", "Pass 1", "pass\t1", "pass 1\r", "pass 1 #",
		"deliver", "deliver 1 go", "deliver 1 stay stay", "deliver 1 stay 1", "deliver stay", "deliver 1 Stay", "deliver 1 ", "drop", "drop 1 stay", "drop 1 2", "drop x",
		"inject", "inject 1", "inject 1 0", "inject 1 0g", "inject 1 FF", "inject 1 000", "inject 1 --", "inject x -", "inject 1 - -", "inject 1 " + long + "00", "inject 1 00 00", "inject -",
		"crash", "crash x", "crash 1 x", "start", "start 1 2", "evict", "evict 1 1", "calm", "calm  4", "calm 1 1", "calm a", "hello", "hello 1", " ", "  ", "-", "stay", "none", "\t",
		"call", "call 1", "call 1 fly /a", "call open /a 1", "call 1 open /a", "call 1 open", "call 1 open /a 1 1", "call 1 open /a 01", "call 1 open  1", "call 1 close", "call 1 close x", "call 1 close 1 1",
		"call 1 read 0 0", "call 1 read 0 0 0 0", "call 1 write 0 0", "call 1 write 0 0 xyz", "call 1 write 0 0 0", "call 1 write 0 0 " + long + "00", "call 1 trunc 0", "call 1 trunc 0 0 0", "call 1 sync", "call 1 sync 0 0",
		"call 1 mkdir", "call 1 mkdir a b", "call 1 mkdir ", "call 1 rmdir", "call 1 link /a", "call 1 link /a /b /c", "call 1 link /a  /b", "call 1 unlink", "call 1 rename /a", "call 1 list", "call 1 list / /", "call 1 stat", "call x stat /", "call 1  stat /", "call 1 Stat /",
	} {
		if l, n, e := lines.Parse(line); len(l) != 0 || n != 1 || e != api.ErrLine {
			t.Errorf("%q: %v %d %d", line, l, n, e)
		}
		if l, n, e := lines.Parse("calm 1\n\n# x\n" + line + "\nnonsense\n"); len(l) != 0 || n != 4 || e != api.ErrLine {
			t.Errorf("%q: %v %d %d", line, l, n, e)
		}
	}
}

// P26.1
func TestParseBounds(t *testing.T) {
	many := strings.Repeat("calm 1\n", 400)
	if l, n, e := lines.Parse("#\n" + many + "\n\n#\n"); len(l) != 400 || n != 0 || e != api.OK {
		t.Error(len(l), n, e)
	}
	if l, n, e := lines.Parse("#\n" + many + "\ncalm 1\nnonsense"); len(l) != 0 || n != 403 || e != api.ErrScript {
		t.Error(len(l), n, e)
	}
	if l, n, e := lines.Parse(many + "nonsense\ncalm 1"); len(l) != 0 || n != 401 || e != api.ErrLine {
		t.Error(len(l), n, e)
	}
	if l, n, e := lines.Parse("calm 1\n#" + strings.Repeat("x", 65536-8)); len(l) != 1 || n != 0 || e != api.OK {
		t.Error(len(l), n, e)
	}
	for _, text := range []string{"calm 1\n#" + strings.Repeat("x", 65536-7), strings.Repeat("nonsense\n", 10000), strings.Repeat("\n", 65537)} {
		if l, n, e := lines.Parse(text); len(l) != 0 || n != 0 || e != api.ErrScript {
			t.Error(len(l), n, e)
		}
	}
}

// P26.2
func TestPrint(t *testing.T) {
	var all []api.Step
	want := ""
	for _, f := range forms {
		text, e := lines.Print([]api.Step{f.step})
		if text != f.line+"\n" || e != api.OK {
			t.Errorf("%q: %q %d", f.line, text, e)
		}
		all, want = append(all, f.step), want+f.line+"\n"
	}
	if text, e := lines.Print(all); text != want || e != api.OK {
		t.Error(text, e)
	}
	if text, e := lines.Print(nil); text != "" || e != api.OK {
		t.Error(text, e)
	}
}

// P26.2
func TestPrintErrors(t *testing.T) {
	for i, s := range []api.Step{
		{}, {Op: 10}, {Op: -1}, {Op: api.StepPass, Node: 1}, {Op: api.StepPass, Stay: true}, {Op: api.StepPass, Picks: []int{1}}, {Op: api.StepPass, Data: []byte{1}}, {Op: api.StepPass, Call: api.Call{Kind: 1}}, {Op: api.StepPass, Call: api.Call{Path: "/"}},
		{Op: api.StepPass, N: 1000000000}, {Op: api.StepPass, N: -1000000000}, {Op: api.StepPass, Skew: []int{1, 1000000000}}, {Op: api.StepDeliver, Skew: []int{1}}, {Op: api.StepDrop, Stay: true}, {Op: api.StepInject, N: 1}, {Op: api.StepInject, Data: make([]byte, 201)}, {Op: api.StepInject, Node: 1 << 40},
		{Op: api.StepCrash, N: 1}, {Op: api.StepStart, Picks: []int{1}}, {Op: api.StepEvict, Node: 1}, {Op: api.StepCalm, Node: -1},
		{Op: api.StepCall}, call(1, api.Call{Kind: 14}), call(1, api.Call{Kind: api.Hello}), call(1, api.Call{Kind: api.Mkdir}), call(1, api.Call{Kind: api.Mkdir, Path: "a b"}), call(1, api.Call{Kind: api.Mkdir, Path: "a\n"}), call(1, api.Call{Kind: api.Mkdir, Path: "a\n#"}), call(1, api.Call{Kind: api.Mkdir, Path: "\n"}), call(1, api.Call{Kind: api.Mkdir, Path: "a\ncalm 1"}),
		call(1, api.Call{Kind: api.Mkdir, Path: " "}), call(1, api.Call{Kind: api.Mkdir, Path: "/a", Path2: "/b"}), call(1, api.Call{Kind: api.Mkdir, Path: "/a", Flags: 1}), call(1, api.Call{Kind: api.Link, Path: "/a"}), call(1, api.Call{Kind: api.Link, Path: "/a /b", Path2: ""}), call(1, api.Call{Kind: api.Open, Path: "/a", Flags: 1 << 40}), call(1, api.Call{Kind: api.Close, Path: "/a"}),
		call(1, api.Call{Kind: api.Read, Data: "x"}), call(1, api.Call{Kind: api.Write, Data: strings.Repeat("x", 201)}), call(1, api.Call{Kind: api.Write, N: 1}), call(1, api.Call{Kind: api.Trunc, Off: 1}), call(1, api.Call{Kind: api.Sync, N: 1}), {Op: api.StepCall, Call: api.Call{Kind: api.Sync}, N: 1},
	} {
		if text, e := lines.Print([]api.Step{{Op: api.StepCalm, N: 1}, s}); text != "" || e != api.ErrArg {
			t.Errorf("%d %q %d", i, text, e)
		}
	}
}

// P26.3
func TestShow(t *testing.T) {
	read := api.Call{Kind: api.Read, Fd: 1, Off: 2, N: 3}
	for i, c := range []struct {
		e    api.Event
		want string
	}{
		{api.Event{Client: 1, Number: 2, Call: api.Call{Kind: api.Stat, Path: "a b"}, Told: 5, Reply: api.Reply{Data: "z", Names: []string{"x", "y"}}}, "1 2 none 0 0 7a x,y 0 0 0"},
		{api.Event{Client: 3, Number: 17, Call: api.Call{Kind: api.Open, Path: "/a", Flags: 1}, Told: 1, Reply: api.Reply{Fd: 4}}, "3 17 open /a 1 0 4 - - 0 0 0"},
		{api.Event{Client: 3, Number: 17, Call: read, Done: 9, Reply: api.Reply{Errno: 18, Fd: 4}}, "3 17 read 1 2 3 open"},
		{api.Event{Client: 3, Number: 17, Call: api.Call{Kind: 99}}, "3 17 none open"},
		{api.Event{Client: -3, Number: -17, Call: read, Told: -1, Reply: api.Reply{Errno: 12, Fd: -4, Data: "\x00\xff", Info: api.Info{Kind: 1, Links: -2, Size: 3}}}, "-3 -17 read 1 2 3 12 -4 00ff - 1 -2 3"},
		{api.Event{Call: api.Call{Kind: api.Write, Data: "hi"}, Told: 1, Reply: api.Reply{Names: []string{"one"}}}, "0 0 write 0 0 6869 0 0 - one 0 0 0"},
		{api.Event{Call: api.Call{Kind: api.Write, Data: strings.Repeat("x", 201)}, Told: 1, Reply: api.Reply{Data: strings.Repeat("x", 300)}}, "0 0 none 0 0 " + strings.Repeat("78", 300) + " - 0 0 0"},
		{api.Event{Call: api.Call{Kind: api.Rename, Path: "/a", Path2: "/b"}, Told: 1}, "0 0 rename /a /b 0 0 - - 0 0 0"},
		{api.Event{Call: api.Call{Kind: api.Mkdir, Path: "/a", Fd: 1}, Told: 1}, "0 0 none 0 0 - - 0 0 0"},
	} {
		if got := lines.Show(c.e); got != c.want+"\n" {
			t.Errorf("%d %q instead of %q", i, got, c.want)
		}
	}
}

func runs(t *testing.T, n int, text, want string) {
	t.Helper()
	if out, at, e := lines.Run(n, text); out != want || at != 0 || e != api.OK {
		t.Errorf("%q %d %d instead of %q", out, at, e, want)
	}
}

// P26.4: the example of the chapter.
func TestExample(t *testing.T) {
	runs(t, 1, "calm 9\ncall 1 open /a 1\ncalm 3\n", "1 1 open /a 1 0 0 - - 0 0 0\nfits\n")
}

// P26.4
func TestRun(t *testing.T) {
	runs(t, 1, "", "fits\n")
	runs(t, 8, "#", "fits\n")
	runs(t, 2, `# two clients
calm 9
call 1 open /a 1

call 2 open /b 3
call 3 stat /
calm 9
call 1 write 0 2 68656c6c6f
calm 9
call 2 stat /a
calm 1
call 2 list /
calm 1
call 1 read 0 0 64
calm 2
call 1 sync 0
call 1 mkdir /d
call 1 mkdir /e
start 0`, `refused 4
refused 16
refused 17
1 1 open /a 1 0 0 - - 0 0 0
2 2 open /b 3 0 0 - - 0 0 0
1 3 write 0 2 68656c6c6f 0 0 - - 0 0 0
2 4 stat /a 0 0 - - 1 1 7
2 5 list / 0 0 - a,b 0 0 0
1 6 read 0 0 64 0 0 000068656c6c6f - 0 0 0
1 7 sync 0 0 0 - - 0 0 0
1 8 mkdir /d open
fits
`)
}

// P26.4
func TestRunErrors(t *testing.T) {
	for i, c := range []struct {
		n    int
		text string
		at   int
		e    api.Errno
	}{
		{9, "", 0, api.ErrArg}, {0, "calm 1", 0, api.ErrArg}, {-1, "", 0, api.ErrArg}, {9, "calm 1\nx", 2, api.ErrLine}, {1, "calm 01", 1, api.ErrLine}, {1, strings.Repeat("calm 1\n", 401), 401, api.ErrScript}, {0, strings.Repeat("x", 65537), 0, api.ErrScript},
	} {
		if out, at, e := lines.Run(c.n, c.text); out != "" || at != c.at || e != c.e {
			t.Error(i, out, at, e)
		}
	}
}

// P26.4: the examples 3, 5 and 8 of the whole.
func TestExamplesOfTheWhole(t *testing.T) {
	runs(t, 1, `calm 9
call 1 open /a 1
calm 1
call 1 write 0 0 6b657074
calm 3
crash 0
start 0
calm 9
call 1 read 0 0 9
calm 2
call 1 mkdir /d
calm 1
call 1 rename /d /d/e
calm 1
pass 64
pass 64
pass 64
call 1 read 0 1 2
calm 9
`, `1 1 open /a 1 0 0 - - 0 0 0
1 2 write 0 0 6b657074 0 0 - - 0 0 0
1 3 read 0 0 9 0 0 6b657074 - 0 0 0
1 4 mkdir /d 0 0 - - 0 0 0
1 5 rename /d /d/e 15 0 - - 0 0 0
1 6 read 0 1 2 0 0 6570 - 0 0 0
fits
`)
}

// P26.5
func TestPrintAndParse(t *testing.T) {
	src := chance.New(1)
	mix := chance.Mix{Clients: 3, Skew: 8, Crashes: true, Paths: []string{"/a", "/", "x"}}
	var l []api.Step
	for range 400 {
		l = append(l, mix.Step(src))
	}
	text, e := lines.Print(l)
	if e != api.OK {
		t.Fatal(e)
	}
	back, n, e := lines.Parse(text)
	if !slices.EqualFunc(back, l, same) || n != 0 || e != api.OK {
		t.Error(n, e)
	}
	var script, plain string
	for i, line := range strings.SplitAfter(text, "\n") {
		script += line
		plain += line
		if i%7 == 0 {
			script += "\n#" + strconv.Itoa(i) + "\n"
		}
	}
	back, _, e = lines.Parse(script)
	if again, f := lines.Print(back); again != plain || e != api.OK || f != api.OK {
		t.Error(e, f)
	}
}

// P26.4 and P25.3: scripts that look random fit, and run the same each time.
func TestScripts(t *testing.T) {
	for seed := range 20 {
		src := chance.New(seed)
		mix := chance.Mix{Clients: 2, Skew: 1, Crashes: true, Paths: []string{"/a", "/d", "/d/a"}}
		var l []api.Step
		for range 400 {
			l = append(l, mix.Step(src))
		}
		text, _ := lines.Print(l)
		out, n, e := lines.Run(2, text)
		again, _, _ := lines.Run(2, text)
		if !strings.HasSuffix(out, "\nfits\n") || out != again || n != 0 || e != api.OK {
			t.Error(seed, n, e)
		}
	}
}
