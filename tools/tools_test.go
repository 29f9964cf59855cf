package tools_test

import (
	"slices"
	"strconv"
	"strings"
	"testing"

	"bellows/api"
	"bellows/disk"
	"bellows/engine"
	"bellows/graph"
	"bellows/manifest"
	"bellows/stale"
	"bellows/tools"
)

func names(all ...string) []string { return all }

func must(t *testing.T, all ...api.Errno) {
	t.Helper()
	for i, e := range all {
		if e != api.OK {
			t.Fatalf("the call %d: %d", i, e)
		}
	}
}

// read is the graph of a manifest's text.
func read(t *testing.T, text string) *graph.Graph {
	t.Helper()
	m, _, e := manifest.Parse(text)
	must(t, e)
	return of(t, m.Edges, m.Defaults...)
}

// of is the graph of edges.
func of(t *testing.T, edges []manifest.Edge, defaults ...string) *graph.Graph {
	t.Helper()
	g, e := graph.New(manifest.Manifest{Edges: edges, Defaults: defaults})
	must(t, e)
	return g
}

// knows asks for just this of a file.
func knows(t *testing.T, g *graph.Graph, name string, want tools.Info) {
	t.Helper()
	if got, ok := tools.Query(g, name); !ok || !sameInfo(got, want) {
		t.Errorf("Query(%q) = %v, %t, want %v", name, got, ok, want)
	}
}

// knowsNot asks for nothing of files.
func knowsNot(t *testing.T, g *graph.Graph, all ...string) {
	t.Helper()
	for _, name := range all {
		if got, ok := tools.Query(g, name); ok || !sameInfo(got, tools.Info{}) {
			t.Errorf("Query(%q) = %v, %t", name, got, ok)
		}
	}
}

func sameInfo(a, b tools.Info) bool {
	return a.Maker == b.Maker && slices.Equal(a.Needs, b.Needs) && slices.Equal(a.Users, b.Users)
}

// commands asks for the commands of a plan.
func commands(t *testing.T, g *graph.Graph, targets []string, want ...string) {
	t.Helper()
	if got, e := tools.Commands(g, targets); e != api.OK || !slices.Equal(got, want) {
		t.Errorf("Commands(%q) = %q, %d, want %q", targets, got, e, want)
	}
}

const rules = `rule cat
 command = cat $in > $out
rule rev
 command = rev $in > $out
rule put
 command = put x > $out
rule once
 command = once sum $in > $out
rule inc
 command = inc $in > $out : d
 depfile = d
rule fail
 command = fail > $out
`

func TestP23_1_Query(t *testing.T) {
	g := read(t, rules+"build c c2: cat b a | m n || o a\nbuild b: rev a\nbuild o: put || a b\nbuild z x y: cat m c2\ndefault l z a\n")
	knows(t, g, "c", tools.Info{Maker: 0, Needs: names("b", "a", "m", "n", "o", "a")})
	knows(t, g, "c2", tools.Info{Maker: 0, Needs: names("b", "a", "m", "n", "o", "a"), Users: names("z")})
	knows(t, g, "b", tools.Info{Maker: 1, Needs: names("a"), Users: names("c", "o")})
	knows(t, g, "o", tools.Info{Maker: 2, Needs: names("a", "b"), Users: names("c")})
	for _, name := range names("x", "y", "z") {
		knows(t, g, name, tools.Info{Maker: 3, Needs: names("m", "c2")})
	}
	knows(t, g, "a", tools.Info{Maker: -1, Users: names("c", "b", "o")})
	knows(t, g, "m", tools.Info{Maker: -1, Users: names("c", "z")})
	knows(t, g, "n", tools.Info{Maker: -1, Users: names("c")})
	// A default that is neither an output nor a need is no file of the graph.
	knowsNot(t, g, "l", "", "d", "./a", "A", "a ", "zz", "/", "c c2", "build.ninja", "cat")
}

// TestP23_1_QueryOfNothing: an edge may have no needs, and a graph no edges.
func TestP23_1_QueryOfNothing(t *testing.T) {
	g := read(t, rules+"build o: put\n")
	knows(t, g, "o", tools.Info{Maker: 0})
	knowsNot(t, g, "a", "")
	g = read(t, "")
	knowsNot(t, g, "o", "")
	g = read(t, "default a\n")
	knowsNot(t, g, "a")
}

// TestP23_1_QueryOfAnyEdges: a graph may be of a manifest that was not read.
func TestP23_1_QueryOfAnyEdges(t *testing.T) {
	g := of(t, []manifest.Edge{
		{},
		{Ins: names("a", "o")},
		{Outs: names("o"), Ins: names("a", "a"), Implicit: names("a"), Order: names("a", "q")},
		{},
		{Outs: names("", "../p"), Ins: names("o")},
		{Order: names("q", "r")},
	})
	knows(t, g, "a", tools.Info{Maker: -1, Users: names("o")})
	knows(t, g, "o", tools.Info{Maker: 2, Needs: names("a", "a", "a", "a", "q"), Users: names("")})
	knows(t, g, "../p", tools.Info{Maker: 4, Needs: names("o")})
	// An edge without outputs has none to be told.
	knows(t, g, "r", tools.Info{Maker: -1})
	knows(t, g, "q", tools.Info{Maker: -1, Users: names("o")})
	knowsNot(t, g, "p", "b")
}

// TestP23_1_QueryOfMany: users are told in the order of edges, not of names.
func TestP23_1_QueryOfMany(t *testing.T) {
	const many = 5000
	var edges []manifest.Edge
	var users []string
	for n := range many {
		out := strconv.Itoa(many - n)
		edges = append(edges, manifest.Edge{Outs: names(out, "second of "+out), Ins: names("s", "s"), Order: names("s")})
		users = append(users, out)
	}
	g := of(t, edges)
	knows(t, g, "s", tools.Info{Maker: -1, Users: users})
	knows(t, g, "second of 1", tools.Info{Maker: many - 1, Needs: names("s", "s", "s")})
}

// TestP23_1_AnswersAreNew: what is told is nobody else's.
func TestP23_1_AnswersAreNew(t *testing.T) {
	g := read(t, rules+"build b: cat a\nbuild c: cat b\n")
	info, _ := tools.Query(g, "b")
	info.Needs[0], info.Users[0] = "x", "x"
	knows(t, g, "b", tools.Info{Maker: 0, Needs: names("a"), Users: names("c")})
	l, _ := tools.Commands(g, nil)
	l[0] = "x"
	commands(t, g, nil, "cat a > b", "cat b > c")
	targets := names("b", "c", "spare")[:1]
	tools.Commands(g, targets)
	if !slices.Equal(targets[:3], names("b", "c", "spare")) {
		t.Errorf("the targets are %q", targets[:3])
	}
}

func TestP23_1_Commands(t *testing.T) {
	const edges = "build c: rev b\nbuild b b2: cat a\nbuild x: put\nbuild e: cat || c\n"
	g := read(t, rules+edges)
	commands(t, g, nil, "cat a > b b2", "rev b > c", "put x > x", "cat  > e")
	commands(t, g, names(), "cat a > b b2", "rev b > c", "put x > x", "cat  > e")
	commands(t, g, names("c"), "cat a > b b2", "rev b > c")
	commands(t, g, names("e"), "cat a > b b2", "rev b > c", "cat  > e")
	commands(t, g, names("x", "b2", "x", "b"), "cat a > b b2", "put x > x")
	commands(t, g, names("a"))
	commands(t, g, names("a", "x"), "put x > x")
	g = read(t, rules+edges+"default b x\n")
	commands(t, g, nil, "cat a > b b2", "put x > x")
	commands(t, g, names("c"), "cat a > b b2", "rev b > c")
	commands(t, read(t, ""), nil)
	// Two edges may have one command.
	commands(t, of(t, []manifest.Edge{{Outs: names("a"), Command: "x"}, {Outs: names("b"), Command: "x"}, {Outs: names("c")}}), nil, "x", "x", "")
}

func TestP23_1_ErrorsOfCommands(t *testing.T) {
	wrong := func(g *graph.Graph, want api.Errno, targets ...string) {
		t.Helper()
		if l, e := tools.Commands(g, targets); len(l) != 0 || e != want {
			t.Errorf("Commands(%q) = %q, %d, want %d", targets, l, e, want)
		}
	}
	g := read(t, rules+"build c: rev b\n")
	wrong(g, api.ErrMissing, "a")
	wrong(g, api.ErrMissing, "c", "a")
	wrong(g, api.ErrMissing, "a", "c")
	wrong(g, api.ErrMissing, "")
	wrong(read(t, ""), api.ErrMissing, "a")
	wrong(read(t, rules+"build c: rev b\ndefault c a\n"), api.ErrMissing)
	wrong(nil, api.ErrState)
	wrong(nil, api.ErrState, "a")
}

// tree is a disk on which something is built.
type tree struct {
	t *testing.T
	d *disk.Disk
}

// planted is a tree with this manifest, and files of which each has its name and an end of line.
func planted(t *testing.T, text string, files ...string) *tree {
	t.Helper()
	d, e := disk.New(api.MaxQuota)
	must(t, e)
	x := &tree{t, d}
	x.write("build.ninja", text)
	for _, name := range files {
		x.write(name, name+"\n")
	}
	return x
}

func (x *tree) write(name, text string) {
	x.t.Helper()
	must(x.t, x.d.Write(name, []byte(text)))
}

// builds asks for a build that succeeds, and runs these.
func (x *tree) builds(ran ...string) {
	x.t.Helper()
	r, e := engine.Build(x.d, nil)
	if e != api.OK || !slices.Equal(r.Ran, ran) {
		x.t.Errorf("Build = %v, %d, want %q", r, e, ran)
	}
}

// because asks which edges are stale, and why.
func (x *tree) because(targets []string, want ...tools.Reason) {
	x.t.Helper()
	if got, e := tools.Explain(x.d, targets); e != api.OK || !slices.Equal(got, want) {
		x.t.Errorf("Explain(%q) = %v, %d, want %v", targets, got, e, want)
	}
}

// would asks which edges would be run.
func (x *tree) would(targets []string, want ...string) {
	x.t.Helper()
	if got, e := tools.Would(x.d, targets); e != api.OK || !slices.Equal(got, want) {
		x.t.Errorf("Would(%q) = %q, %d, want %q", targets, got, e, want)
	}
}

// fails asks both for an error, and nothing beside it.
func (x *tree) fails(want api.Errno, targets ...string) {
	x.t.Helper()
	if l, e := tools.Explain(x.d, targets); len(l) != 0 || e != want {
		x.t.Errorf("Explain(%q) = %v, %d, want %d", targets, l, e, want)
	}
	if l, e := tools.Would(x.d, targets); len(l) != 0 || e != want {
		x.t.Errorf("Would(%q) = %q, %d, want %d", targets, l, e, want)
	}
}

// TestP23_2_Examples: nothing was built.
func TestP23_2_Examples(t *testing.T) {
	x := planted(t, rules+"build c: rev b\nbuild b: rev a\nbuild z: put\n", "a")
	x.would(nil, "b", "c", "z")
	x.because(nil, tools.Reason{Out: "b", Why: stale.Unknown}, tools.Reason{Out: "c", Why: stale.Unknown}, tools.Reason{Out: "z", Why: stale.Unknown})
	x.would(names("b"), "b")
	x.because(names("b"), tools.Reason{Out: "b", Why: stale.Unknown})
}

// TestP23_2_ExamplesOfTheWhole: the ten of them, in order.
func TestP23_2_ExamplesOfTheWhole(t *testing.T) {
	const b = rules + "build b: rev a\n"
	const c = b + "build c: rev b\n"
	x := planted(t, c, "a")
	x.would(nil, "b", "c")
	x.builds("b", "c")
	x.would(nil)
	x.because(nil)
	x.write("a", "a\n")
	x.would(nil, "b", "c")
	x.because(nil, tools.Reason{Out: "b", Why: stale.Inputs})
	x.builds("b", "c")
	must(t, x.d.Remove("b"))
	x.would(nil, "b", "c")
	x.because(nil, tools.Reason{Out: "b", Why: stale.Gone}, tools.Reason{Out: "c", Why: stale.Inputs})
	x.builds("b", "c")
	must(t, x.d.Append("c", nil))
	x.would(nil, "c")
	x.because(nil, tools.Reason{Out: "c", Why: stale.Gone})
	x.builds("c")
	must(t, x.d.SyncDir(), x.d.Sync("build.ninja"), x.d.Sync("a"), x.d.Sync("c"))
	x.d.Restart(disk.Keep{Tails: []int{1}})
	x.would(nil, "b", "c")
	x.because(nil, tools.Reason{Out: "b", Why: stale.Gone}, tools.Reason{Out: "c", Why: stale.Inputs})
	x.builds("b", "c")
	s, _ := x.d.Stat(api.RunsLog)
	must(t, x.d.Cut(api.RunsLog, s.Size-1))
	// The run that was known ahead is known again.
	x.would(nil, "c")
	x.because(nil, tools.Reason{Out: "c", Why: stale.Gone})
	x.builds("c")
	x.write("build.ninja", b)
	x.would(nil)
	x.write("build.ninja", c)
	x.would(nil)
	must(t, x.d.Remove(api.RunsLog))
	x.would(nil, "b", "c")
	x.because(nil, tools.Reason{Out: "b", Why: stale.Unknown}, tools.Reason{Out: "c", Why: stale.Unknown})
	x.builds("b", "c")
}

// TestP23_2_EachReason: of each edge its first output is told, whichever output it is of which something is wrong.
func TestP23_2_EachReason(t *testing.T) {
	const text = rules + "build f f2: cat m\nbuild u u2: cat a\nbuild g g2: rev a\nbuild k k2: cat b\nbuild i i2: cat c | m\nbuild n n2: inc h\nbuild ok ok2: cat z\n"
	x := planted(t, text, "a", "b", "c", "m", "z")
	x.write("h", "#include l\n")
	x.write("l", "1\n")
	x.builds("f", "u", "g", "k", "i", "n", "ok")
	x.would(nil)
	x.because(nil)
	turned := strings.Replace(text, "f f2: cat m", "f f2: badly m", 1)
	turned = strings.Replace(turned, "u u2: cat", "new u: cat", 1)
	turned = strings.Replace(turned, "k k2: cat", "k k2: rev", 1)
	turned = strings.Replace(turned, "i2: cat c | m", "i2: cat c | z", 1)
	x.write("build.ninja", "rule badly\n command = cat $in > x\n"+turned)
	must(t, x.d.Remove("g2"))
	x.write("l", "2\n")
	x.would(nil, "f", "new", "g", "k", "i", "n")
	x.because(nil,
		tools.Reason{Out: "f", Why: stale.Form}, tools.Reason{Out: "new", Why: stale.Unknown}, tools.Reason{Out: "g", Why: stale.Gone},
		tools.Reason{Out: "k", Why: stale.Command}, tools.Reason{Out: "i", Why: stale.Inputs}, tools.Reason{Out: "n", Why: stale.Found})
	x.because(names("n2", "g2"), tools.Reason{Out: "g", Why: stale.Gone}, tools.Reason{Out: "n", Why: stale.Found})
	x.would(names("n2", "g2"), "g", "n")
	must(t, x.d.Remove("z"))
	x.because(names("ok2"), tools.Reason{Out: "ok", Why: stale.Inputs})
}

// TestP23_2_Below: what stands below a stale one would be run, by whichever need, and however far; what does not would not.
func TestP23_2_Below(t *testing.T) {
	const text = rules + "build e: cat d\nbuild d: put || c2\nbuild c c2: put | b\nbuild b: cat a\nbuild y: cat x\nbuild x: put\nbuild w: cat b y\n"
	x := planted(t, text, "a")
	x.builds("b", "c", "d", "e", "x", "y", "w")
	x.would(nil)
	x.write("a", "a\n")
	x.because(nil, tools.Reason{Out: "b", Why: stale.Inputs})
	x.would(nil, "b", "c", "d", "e", "w")
	x.would(names("c"), "b", "c")
	x.would(names("y"))
	x.would(names("a"))
	x.because(names("e"), tools.Reason{Out: "b", Why: stale.Inputs})
	// An order-only need alone lets nothing be run, but it would, as far as can be told ahead.
	x.builds("b", "c", "w")
	must(t, x.d.Remove("x"))
	x.would(nil, "x", "y", "w")
	x.because(nil, tools.Reason{Out: "x", Why: stale.Gone}, tools.Reason{Out: "y", Why: stale.Inputs})
	x.would(names("w"), "x", "y", "w")
	x.would(names("e"))
	// One of the plan that is fresh may stand below a stale one of another plan alone.
	x.because(names("e"))
}

// TestP23_2_OnceStays: an output that a rerun leaves as it is makes nothing stale, but till then what stands below it would be run.
func TestP23_2_OnceStays(t *testing.T) {
	x := planted(t, rules+"build s: once a\nbuild t: cat s\n", "a")
	x.builds("s", "t")
	x.write("a", "a\n")
	x.would(nil, "s", "t")
	x.because(nil, tools.Reason{Out: "s", Why: stale.Inputs})
	x.builds("s")
	x.would(nil)
	x.write("a", "b\n")
	x.would(nil, "s", "t")
	x.builds("s", "t")
}

// TestP23_2_WhatIsMissing: a source that is not there is no error here, as nothing is run.
func TestP23_2_WhatIsMissing(t *testing.T) {
	x := planted(t, rules+"build c: rev b\nbuild b: rev a || l\nbuild f: fail\n")
	x.would(nil, "b", "c", "f")
	x.would(names("a"))
	x.because(names("a", "l"))
	x.because(names("b"), tools.Reason{Out: "b", Why: stale.Unknown})
	x.write("a", "1")
	x.write("l", "")
	if _, e := engine.Build(x.d, names("c")); e != api.OK {
		t.Fatalf("Build: %d", e)
	}
	must(t, x.d.Remove("l"))
	x.would(names("c"))
	must(t, x.d.Remove("a"))
	x.because(names("c"), tools.Reason{Out: "b", Why: stale.Inputs})
	x.would(names("c"), "b", "c")
	// One that fails is stale, and stays so.
	x.would(names("f"), "f")
	engine.Build(x.d, names("f"))
	x.because(names("f"), tools.Reason{Out: "f", Why: stale.Unknown})
}

func TestP23_2_Errors(t *testing.T) {
	x := planted(t, "")
	x.would(nil)
	x.because(nil)
	x.fails(api.ErrMissing, "a")
	must(t, x.d.Remove("build.ninja"))
	x.fails(api.ErrMissing)
	for text, want := range map[string]api.Errno{
		"build":                                  api.ErrParse,
		"\x00":                                   api.ErrParse,
		strings.Repeat("\n", api.MaxText+1):      api.ErrLong,
		rules + "build a a: put\n":               api.ErrTwice,
		rules + "build a: rev a\n":               api.ErrCycle,
		rules + "build .deps_log: put\n":         api.ErrName,
		rules + "build a: rev .build_log\n":      api.ErrName,
		rules + "build a: rev b\ndefault a zz\n": api.ErrMissing,
	} {
		x.write("build.ninja", text)
		x.fails(want)
		x.fails(want, "a", "zz")
	}
	x.write("build.ninja", rules+"build a: rev b\n")
	x.fails(api.ErrMissing, "zz")
	x.fails(api.ErrMissing, "a", "zz")
	x.fails(api.ErrMissing, "./a")
	x.would(names("a", "b"), "a")
	// An armed disk goes down by a deed alone, and none is needed where the logs are there.
	x.d.Arm(0)
	x.would(names("a"), "a")
	if e := x.d.Remove("build.ninja"); e != api.ErrDown {
		t.Errorf("Remove: %d", e)
	}
	x.fails(api.ErrDown)
	x.fails(api.ErrDown, "zz")
}

// TestP23_2_ErrorsOfOpening: a database that is none, or can't be opened.
func TestP23_2_ErrorsOfOpening(t *testing.T) {
	x := planted(t, rules+"build a: rev b\n", "b")
	x.d.Arm(0)
	x.fails(api.ErrDown)
	x.d.Restart(disk.Keep{Dir: 9, Tails: []int{1000}})
	x.d.Arm(1)
	x.fails(api.ErrDown, "zz")
	x.d.Restart(disk.Keep{Dir: 9, Tails: []int{1000}})
	for _, log := range names(api.RunsLog, api.NamesLog) {
		x.write(log, "BLW2")
		x.fails(api.ErrHeader)
		// It is told ahead of the plan's, and behind the loading's.
		x.fails(api.ErrHeader, "zz")
		x.write("build.ninja", "build")
		x.fails(api.ErrParse, "zz")
		x.write("build.ninja", rules+"build a: rev b\n")
		must(t, x.d.Remove(log))
	}
	x.write(api.RunsLog, "BLW1\x01\x00\x00\x00\x01\x00\x00\x00\x43\xbe\xb7\xe8a")
	x.fails(api.ErrForm)
	x.fails(api.ErrForm, "zz")
	must(t, x.d.Remove(api.RunsLog))
	x.would(nil, "a")
}

// TestP23_2_TurnsNothing: beside the opening of the database nothing is turned.
func TestP23_2_TurnsNothing(t *testing.T) {
	x := planted(t, rules+"build a: rev b\nbuild c: fail\n", "b")
	x.would(nil, "a", "c")
	if got := x.d.Names(); !slices.Equal(got, names(api.RunsLog, api.NamesLog, "b", "build.ninja")) {
		t.Errorf("there is %q", got)
	}
	deeds := x.d.Deeds()
	targets := names("a", "c", "spare")[:1]
	x.would(targets, "a")
	x.because(targets, tools.Reason{Out: "a", Why: stale.Unknown})
	x.would(nil, "a", "c")
	if x.d.Deeds() != deeds || !slices.Equal(targets[:3], names("a", "c", "spare")) {
		t.Errorf("%d deeds, the targets are %q", x.d.Deeds()-deeds, targets[:3])
	}
}
