package scratch_test

import (
	"math"
	"reflect"
	"slices"
	"strconv"
	"strings"
	"testing"

	"bellows/api"
	"bellows/cook"
	"bellows/graph"
	"bellows/manifest"
	"bellows/scratch"
)

// ownFiles are all own files there are.
var ownFiles = []string{"build.ninja", ".build_log", ".deps_log", ".build_log.new", ".deps_log.new"}

// noOwn are names that are not those of own files, though some are near.
var noOwn = []string{
	"", "other", ".", "/", ".new", "new", "build.ninja.new", "build.ninj", "build.ninjas", "Build.ninja", "./build.ninja", "x/build.ninja", "build.ninja/x", "build_ninja",
	"build_log", ".build_lo", ".build_log.", ".build_log.ne", ".build_log.newer", ".build_log.new.new", ".build_log_new", "x/.build_log", ".build_log/x", " .build_log", ".build_log ",
	"deps_log", ".deps_lo", ".deps_log.", ".deps_log.ne", ".deps_log.new.new", "x/.deps_log.new", ".deps_log.new/x", ".DEPS_LOG", ".build_log\x00", ".deps_log\n",
}

func names(all ...string) []string { return all }

// of is files of names and bytes, one behind the other.
func of(pairs ...string) []cook.File {
	var files []cook.File
	for i := 0; i < len(pairs); i += 2 {
		files = append(files, cook.File{Name: pairs[i], B: []byte(pairs[i+1])})
	}
	return files
}

func edges(all ...manifest.Edge) manifest.Manifest { return manifest.Manifest{Edges: all} }

// read is the manifest of some rows. One with a " = " is an edge, with its command behind; another one stands in the text as it is.
func read(t *testing.T, rows ...string) manifest.Manifest {
	t.Helper()
	text := "rule r\n command = $c\n depfile = $d\n"
	for _, row := range rows {
		head, command, edge := strings.Cut(row, " = ")
		if !edge {
			text += row + "\n"
			continue
		}
		outs, needs, _ := strings.Cut(head, ":")
		text += "build " + outs + ": r " + needs + "\n c = " + strings.ReplaceAll(command, "$", "$$") + "\n"
		if _, deps, found := strings.Cut(command, " : "); found {
			text += " d = " + deps + "\n"
		}
	}
	m, n, e := manifest.Parse(text)
	if e != api.OK {
		t.Fatalf("Parse(%q): line %d, %d", text, n, e)
	}
	return m
}

func graphed(t *testing.T, m manifest.Manifest) *graph.Graph {
	t.Helper()
	g, e := graph.New(m)
	if e != api.OK {
		t.Fatalf("New(%.300q): %d", m, e)
	}
	return g
}

// sameFiles: are these the same names and bytes, in order? Bytes that are none may be nil, or not.
func sameFiles(a, b []cook.File) bool {
	return slices.EqualFunc(a, b, func(a, b cook.File) bool { return a.Name == b.Name && string(a.B) == string(b.B) })
}

// makes checks what is made of sources for targets.
func makes(t *testing.T, m manifest.Manifest, sources []cook.File, targets []string, want ...string) {
	t.Helper()
	if made, e := scratch.Eval(m, sources, targets); e != api.OK || !sameFiles(made, of(want...)) {
		t.Errorf("Eval(%.300q, %.300q, %q) = %.300q, %d, want %.300q", m, sources, targets, made, e, of(want...))
	}
}

// fails checks that nothing is made, and why.
func fails(t *testing.T, m manifest.Manifest, sources []cook.File, want api.Errno, targets ...string) {
	t.Helper()
	if made, e := scratch.Eval(m, sources, targets); e != want || len(made) > 0 {
		t.Errorf("Eval(%.300q, %.300q, %q) = %.300q, %d, want nothing, %d", m, sources, targets, made, e, want)
	}
}

func TestP16_1_Own(t *testing.T) {
	for _, name := range ownFiles {
		if !scratch.Own(name) {
			t.Errorf("Own(%q) is false", name)
		}
	}
	for _, name := range noOwn {
		if scratch.Own(name) {
			t.Errorf("Own(%q) is true", name)
		}
	}
}

// around is three edges, of which one has the name in a row of its own.
func around(name string, at, row int) manifest.Manifest {
	m := edges(
		manifest.Edge{Outs: names("a", "b"), Ins: names("s", "t"), Implicit: names("u"), Order: names("v"), Command: "1"},
		manifest.Edge{Outs: names("c"), Ins: names("a"), Command: "2"},
		manifest.Edge{Outs: names("d"), Implicit: names("b", "u"), Order: names("c"), Command: "3"},
	)
	e := &m.Edges[at]
	rows := []*[]string{&e.Outs, &e.Ins, &e.Implicit, &e.Order}
	*rows[row] = append(*rows[row], name)
	return m
}

func wrong(t *testing.T, m manifest.Manifest, want bool) {
	t.Helper()
	if scratch.Wrong(graphed(t, m)) != want {
		t.Errorf("Wrong of %q is %t", m, !want)
	}
}

func TestP16_1_Wrong(t *testing.T) {
	for at := range 3 {
		for row := range 4 {
			for _, name := range ownFiles {
				wrong(t, around(name, at, row), true)
			}
			for _, name := range noOwn {
				wrong(t, around(name, at, row), false)
			}
		}
	}
}

func TestP16_1_WrongIsOfOutputsAndNeedsAlone(t *testing.T) {
	wrong(t, edges(), false)
	for _, name := range ownFiles {
		wrong(t, manifest.Manifest{Edges: []manifest.Edge{{Outs: names("a"), Command: name, Depfile: name}}, Defaults: names(name)}, false)
		// It is both made and needed; or needed by an edge that makes nothing; or the only file at all.
		wrong(t, edges(manifest.Edge{Outs: names(name)}, manifest.Edge{Outs: names("a"), Ins: names(name)}), true)
		wrong(t, edges(manifest.Edge{Order: names(name)}), true)
		wrong(t, edges(manifest.Edge{Outs: names(name)}), true)
	}
}

// wide is a graph in which edges stand below others by needs of each kind, right away or not. 0 and 1 are the first ones; 2 stands below 0, 3 below 1 and 2, 4 below 3; 5 has to do with none.
func wide(t *testing.T) *graph.Graph {
	return graphed(t, edges(
		manifest.Edge{Outs: names("a", "a2"), Ins: names("s")},
		manifest.Edge{Outs: names("b"), Ins: names("s")},
		manifest.Edge{Outs: names("c", "c2"), Order: names("a", "w"), Depfile: "c.d"},
		manifest.Edge{Outs: names("d"), Implicit: names("c2"), Ins: names("b")},
		manifest.Edge{Outs: names("e", "f"), Ins: names("d"), Implicit: names("v")},
		manifest.Edge{Outs: names("x"), Ins: names("y")},
	))
}

// there checks which of the names may be there for an edge.
func there(t *testing.T, g *graph.Graph, n int, all []string, want ...string) {
	t.Helper()
	for _, name := range all {
		if got := scratch.There(g, n, name); got != slices.Contains(want, name) {
			t.Errorf("There(%d, %q) is %t", n, name, got)
		}
	}
}

func TestP16_1_There(t *testing.T) {
	g := wide(t)
	free := []string{"s", "w", "v", "y", "c.d", "nowhere"}
	all := slices.Concat(g.Outs(), free, noOwn, ownFiles)
	free = slices.Concat(free, noOwn)
	for n, above := range [][]string{{}, {}, {"a", "a2"}, {"a", "a2", "b", "c", "c2"}, {"a", "a2", "b", "c", "c2", "d"}, {}} {
		there(t, g, n, all, append(above, free...)...)
	}
	for _, n := range []int{-1, 6, 7, math.MaxInt, math.MinInt} {
		there(t, g, n, all, free...)
	}
}

func TestP16_1_ThereWithoutEdges(t *testing.T) {
	g := graphed(t, edges())
	for _, n := range []int{-1, 0, 1} {
		there(t, g, n, slices.Concat(noOwn, ownFiles), noOwn...)
	}
}

func TestP16_1_ThereOfOwnOnes(t *testing.T) {
	// Such a graph is wrong, but the words tell of it all the same: of an own file it counts who makes it.
	for _, name := range ownFiles {
		g := graphed(t, edges(manifest.Edge{Outs: names(name), Ins: names(name + "x")}, manifest.Edge{Outs: names("b"), Ins: names(name)}, manifest.Edge{Outs: names("c")}))
		there(t, g, 0, ownFiles)
		there(t, g, 1, ownFiles, name)
		there(t, g, 2, ownFiles)
		there(t, g, 3, ownFiles)
		g = graphed(t, edges(manifest.Edge{Outs: names("b"), Ins: names(name)}))
		there(t, g, 0, ownFiles)
	}
}

func fits(t *testing.T, outs []string, deps string, d cook.Dish, want bool) {
	t.Helper()
	if got := scratch.Fits(manifest.Edge{Outs: outs, Depfile: deps}, d); got != want {
		t.Errorf("Fits(%q, %q, %v) is %t", outs, deps, d, got)
	}
}

func TestP16_1_Fits(t *testing.T) {
	dish := cook.Dish{Outs: of("a", "1", "b", "2", "c", "3")}
	fits(t, names("a", "b", "c"), "", dish, true)
	for _, outs := range [][]string{nil, {}, {"a"}, {"a", "b"}, {"b", "c"}, {"a", "c"}, {"a", "b", "c", "d"}, {"a", "b", "c", "c"}, {"d", "a", "b", "c"}, {"a", "c", "b"}, {"c", "b", "a"}, {"b", "a", "c"}, {"a", "b", "d"}, {"x", "b", "c"}, {"a", "", "c"}, {"a", "./b", "c"}, {"1", "2", "3"}} {
		fits(t, outs, "", dish, false)
	}
	fits(t, names("a", "b", "c"), "d", dish, false)
	dish.Depfile = "d"
	fits(t, names("a", "b", "c"), "d", dish, true)
	fits(t, names("a", "b", "c"), "", dish, false)
	fits(t, names("a", "b", "c"), "e", dish, false)
	fits(t, names("a", "b", "c"), "d2", dish, false)
	fits(t, names("a", "c", "b"), "d", dish, false)
}

func TestP16_1_FitsByNamesAlone(t *testing.T) {
	for _, outs := range [][]string{nil, {}} {
		fits(t, outs, "", cook.Dish{}, true)
		fits(t, outs, "", cook.Dish{Outs: []cook.File{}}, true)
		fits(t, outs, "", cook.Dish{Outs: of("a", "")}, false)
		fits(t, outs, "d", cook.Dish{}, false)
		fits(t, outs, "d", cook.Dish{Depfile: "d"}, true)
	}
	d := cook.Dish{Outs: of("a", "x"), Once: true, Depfile: "d", Deps: "other: text\n"}
	edge := manifest.Edge{Outs: names("a"), Ins: names("i"), Implicit: names("j"), Order: names("k"), Command: "any", Depfile: "d"}
	if !scratch.Fits(edge, d) {
		t.Error("Fits: more than names counts")
	}
}

func TestP16_2_Examples(t *testing.T) {
	makes(t, read(t, "b: a = cat a > b", "c: b = cat b b > c"), of("a", "x"), nil, "b", "x", "c", "xx")
	makes(t, read(t, "b: a = rev a > b", "c: b = rev b > c"), of("a", "12"), nil, "b", "21", "c", "12")
}

func TestP16_2_InTheOrderOfThePlan(t *testing.T) {
	m := read(t, "d: c b = cat c b > d", "c c2: a = rev a > c c2", "b: s = cat s > b", "a: s = put 1 2 > a", "z: || d = put z > z")
	sources := of("s", "s!")
	makes(t, m, sources, names("d"), "b", "s!", "a", "1 2\n", "c", "\n2 1", "c2", "\n2 1", "d", "\n2 1s!")
	makes(t, m, sources, names("c2"), "a", "1 2\n", "c", "\n2 1", "c2", "\n2 1")
	makes(t, m, sources, names("b"), "b", "s!")
	makes(t, m, sources, names("a", "b", "a"), "b", "s!", "a", "1 2\n")
	makes(t, m, sources, names("s"))
	makes(t, m, sources, names("s", "a", "s"), "a", "1 2\n")
}

func TestP16_2_WithoutTargets(t *testing.T) {
	rows := []string{"b: a = cat a > b", "c: b = cat b > c", "d: a = rev a > d", "x: none = cat none > x"}
	whole := read(t, rows...)
	some := read(t, append(rows, "default d c d")...)
	for _, none := range [][]string{nil, {}} {
		fails(t, whole, of("a", "xy"), api.ErrMissing, none...)
		makes(t, whole, of("a", "xy", "none", "."), none, "b", "xy", "c", "xy", "d", "yx", "x", ".")
		makes(t, some, of("a", "xy"), none, "b", "xy", "c", "xy", "d", "yx")
		makes(t, edges(), of("a", "xy"), none)
		makes(t, edges(), nil, none)
		// Defaults are targets as those that are told are.
		fails(t, read(t, append(rows, "default c nowhere")...), of("a", "xy", "nowhere", ""), api.ErrMissing, none...)
		makes(t, read(t, append(rows, "default a")...), of("a", "xy"), none)
		fails(t, read(t, append(rows, "default none")...), of("a", "xy"), api.ErrMissing, none...)
	}
	makes(t, some, of("a", "xy"), names("b"), "b", "xy")
}

func TestP16_2_NoGraph(t *testing.T) {
	sources := of("a", "x")
	fails(t, edges(manifest.Edge{Outs: names("b"), Command: "put > b"}, manifest.Edge{Outs: names("b"), Command: "put > b"}), sources, api.ErrTwice, "b")
	fails(t, read(t, "b: c = cat c > b", "c: b = cat b > c", "d: a = cat a > d"), sources, api.ErrCycle, "d")
	fails(t, read(t, "b: b = cat b > b"), append(sources, of("b", "x")...), api.ErrCycle, "b")
}

func TestP16_2_OwnFiles(t *testing.T) {
	for _, name := range ownFiles {
		sources := of("a", "x", name, "y")
		for _, row := range []string{name + ": a = cat a > " + name, "c: " + name + " = put > c", "c: | " + name + " = put > c", "c: || " + name + " = put > c"} {
			// Also where nobody asks for it.
			m := read(t, "b: a = cat a > b", row)
			fails(t, m, sources, api.ErrName, "b")
			fails(t, m, sources, api.ErrName)
			fails(t, m, sources, api.ErrName, name)
		}
		// As a target it is no file of the graph, be it there or not.
		m := read(t, "b: a = cat a > b", "i: a = inc a > i : i.d")
		fails(t, m, sources, api.ErrMissing, name)
		fails(t, m, sources, api.ErrMissing, "b", name)
		// It does not count, so nobody finds it.
		makes(t, m, sources, nil, "b", "x", "i", "x")
		fails(t, m, of("a", "#include "+name+"\n", name, "y"), api.ErrCommand, "i")
		makes(t, m, of("a", "#include "+name+"x\n", name+"x", "y"), names("i"), "i", "y")
	}
}

func TestP16_2_Missing(t *testing.T) {
	m := read(t, "b: a = cat a > b", "c: b | i || o = cat b > c", "d: c = cat c > d", "x: y = cat y > x")
	all := of("a", "x", "i", "", "o", "")
	makes(t, m, all, names("d"), "b", "x", "c", "x", "d", "x")
	for _, f := range all {
		less := slices.DeleteFunc(slices.Clone(all), func(other cook.File) bool { return other.Name == f.Name })
		fails(t, m, less, api.ErrMissing, "d")
		fails(t, m, less, api.ErrMissing, f.Name)
	}
	// That it would be made ahead does not help, and one that no edge of the plan needs may be missing.
	fails(t, m, of("b", "x", "c", "x"), api.ErrMissing, "c")
	makes(t, m, of("a", "x"), names("b"), "b", "x")
	// A target that is a source must be there; one that is neither is none, though it is there.
	fails(t, m, all, api.ErrMissing, "d", "y")
	makes(t, m, append(all, of("y", "")...), names("d", "y"), "b", "x", "c", "x", "d", "x")
	fails(t, m, append(all, of("z", "")...), api.ErrMissing, "d", "z")
	fails(t, m, append(all, of("", "")...), api.ErrMissing, "")
	fails(t, m, nil, api.ErrMissing)
	fails(t, edges(), all, api.ErrMissing, "a")
}

func TestP16_2_CommandThatFails(t *testing.T) {
	sources := of("a", "x", "i", "y", "o", "z", "other", "", "big", strings.Repeat("x", api.MaxFile))
	for _, row := range []string{
		"b: a = fail a > b",
		"b: a = b", "b: a = cat a", "b: a = cat a >", "b: a = cut a > b", // no command
		"b: a = cat a > c", "b: a = cat a > b c", "b c: a = cat a > b", "b c: a = cat a > c b", "b: b2 = cat a > b b2", // other outputs
		"b: a = cat other > b", "b: a = cat a o > b", "b: a || o = cat o > b", "b: = cat a > b", // what is not declared
		"b: a = inc a > b c : d", "b: big a = cat big a > b",
		"b: a = rev > b", "b: a i = rev a i > b", "b: = sum > b",
	} {
		fails(t, read(t, row), append(sources, of("b2", "")...), api.ErrCommand)
		// Nobody asks for it.
		makes(t, read(t, row, "z: a = rev a > z"), append(sources, of("b2", "")...), names("z"), "z", "x")
	}
	for _, row := range []string{"b: a i = cat i a > b", "b: | i a = cat i a > b", "b: i | a || o = cat i a > b", "b: i a | i a || a = once cat  i a >  b"} {
		makes(t, read(t, row), sources, nil, "b", "yx")
	}
	makes(t, read(t, "b: big = cat big > b"), sources, nil, "b", strings.Repeat("x", api.MaxFile))
}

func TestP16_2_AnotherDepfile(t *testing.T) {
	sources := of("a", "#include s\n", "s", "x")
	edge := func(command, deps string) manifest.Manifest {
		return edges(manifest.Edge{Outs: names("b"), Ins: names("a"), Command: command, Depfile: deps})
	}
	makes(t, edge("inc a > b : d", "d"), sources, nil, "b", "x")
	for _, deps := range []string{"", "b", "e", "./d", "d "} {
		fails(t, edge("inc a > b : d", deps), sources, api.ErrCommand)
	}
	makes(t, edge("cat a > b", ""), sources, nil, "b", "#include s\n")
	fails(t, edge("cat a > b", "d"), sources, api.ErrCommand)
}

func TestP16_2_TheFirstFault(t *testing.T) {
	twice := manifest.Edge{Outs: names("t", "t")}
	circle := manifest.Edge{Outs: names("k"), Ins: names("k")}
	wrong := manifest.Edge{Outs: names("w"), Ins: names(".build_log")}
	lacks := manifest.Edge{Outs: names("l"), Ins: names("none"), Command: "fail > l"}
	bad := manifest.Edge{Outs: names("f"), Ins: names("a"), Command: "fail > f"}
	a := of("a", "")
	fails(t, edges(bad, lacks, wrong, circle, twice), a, api.ErrTwice, "nowhere")
	fails(t, edges(bad, lacks, wrong, circle), a, api.ErrCycle, "nowhere")
	fails(t, edges(bad, lacks, wrong), a, api.ErrName, "nowhere")
	fails(t, edges(bad, lacks), a, api.ErrMissing, "f", "nowhere")
	fails(t, edges(bad, lacks), a, api.ErrMissing, "f", "none")
	// Edge by edge, in the order of the plan; in each one what is missing first.
	fails(t, edges(bad, lacks), a, api.ErrCommand, "l", "f")
	fails(t, edges(lacks, bad), a, api.ErrMissing, "f", "l")
	fails(t, edges(lacks), a, api.ErrMissing, "l")
	late := manifest.Edge{Outs: names("late"), Ins: names("f", "none"), Command: "cat f none > late"}
	fails(t, edges(late, bad), a, api.ErrCommand, "late")
	late = manifest.Edge{Outs: names("late"), Ins: names("l", "a"), Command: "fail > late"}
	fails(t, edges(late, lacks), a, api.ErrMissing, "late")
}

func TestP16_2_WhatIsThere(t *testing.T) {
	rows := []string{"o: a | k || h g = inc a > o : o.d", "h: b = rev b > h", "g: f = cat f > g", "f f2: b = cat b > f f2", "x: o b = cat b > x", "y: b = cat b > y"}
	m := read(t, rows...)
	done := func(a string, more ...string) []cook.File {
		return append(of("a", a, "b", "12", "k", "k", "h", "old", "f2", "old", "x", "old", "y", "old", "o", "old", "free", "free", "o.d", "is one"), of(more...)...)
	}
	behind := func(o string) []string {
		return []string{"h", "21", "f", "12", "f2", "12", "g", "12", "o", o}
	}
	for name, want := range map[string]string{
		"h": "21", "g": "12", "f": "12", "f2": "12", // what is made ahead, though it stands far above, and the source is another one
		"a2": "", "b": "12", "k": "k", "free": "free", "o.d": "is one", // what no edge makes
	} {
		makes(t, m, done("#include "+name+"\n!", "a2", ""), names("o"), behind(want+"!")...)
	}
	for _, name := range []string{"x", "y", "o", "none", "build.ninja"} {
		fails(t, m, done("#include "+name+"\n!", "build.ninja", "rule"), api.ErrCommand, "o")
		fails(t, m, done("#include "+name+"\n!", "build.ninja", "rule"), api.ErrCommand, "o", "y")
		fails(t, m, done("#include "+name+"\n!", "build.ninja", "rule"), api.ErrCommand, "y", "o")
	}
	// Without the order it stands below nothing, so that nothing that is made may be found, be it made already.
	rows[0] = "o: a | k = inc a > o : o.d"
	m = read(t, append(slices.Clone(rows[1:]), rows[0])...)
	for _, name := range []string{"h", "g", "f", "f2"} {
		fails(t, m, done("#include "+name+"\n!"), api.ErrCommand, "h", "g", "o")
	}
	// One that is found puts in another one that must be there likewise.
	fails(t, m, done("#include free2\n", "free2", "#include h\n"), api.ErrCommand, "o")
	makes(t, m, done("#include free2\n", "free2", "#include k\n"), names("o"), "o", "k")
}

func TestP16_2_SourcesThatDoNotCount(t *testing.T) {
	m := read(t, "b: a = cat a > b", "c: b = cat b > c", "x: y = cat y > x")
	makes(t, m, of("b", "old", "c", "old", "a", "new", "build.ninja", "any", ".build_log", "", "x", "?", "what/ever", "", "", "empty", "no path", "", "b", "older"), names("c"), "b", "new", "c", "new")
	// Of two of one name the first one counts.
	makes(t, m, of("a", "first", "a", "second"), names("b"), "b", "first")
	makes(t, m, of("b", "old", "a", "", "a", "second"), names("b"), "b", "")
	makes(t, m, []cook.File{{Name: "a"}}, names("b"), "b", "")
}

func TestP16_2_AnyManifest(t *testing.T) {
	// One that was not read may have other names, and edges without outputs, which are never done.
	m := edges(
		manifest.Edge{Ins: names("none"), Command: "fail"},
		manifest.Edge{Outs: names("b"), Ins: names("./a", ""), Command: "cat ./a > b"},
		manifest.Edge{Outs: names("no path "), Command: "cat > no path"},
		manifest.Edge{},
	)
	makes(t, m, of("./a", "x", "", ""), names("b"), "b", "x")
	fails(t, m, of("./a", "x"), api.ErrMissing, "b")
	fails(t, m, of("a", "x", "", ""), api.ErrMissing, "b")
	fails(t, m, of("./a", "x", "", ""), api.ErrCommand)
	makes(t, m, of("", ""), names(""))
	fails(t, m, of("", ""), api.ErrMissing, "", "none")
}

func TestP16_2_LongChain(t *testing.T) {
	var m manifest.Manifest
	last := "s"
	var want []string
	for n := range 1000 {
		out := "e" + strconv.Itoa(n)
		m.Edges = append(m.Edges, manifest.Edge{Outs: names(out), Ins: names(last), Command: "cat " + last + " > " + out})
		want = append(want, out, "text")
		last = out
	}
	slices.Reverse(m.Edges)
	makes(t, m, of("s", "text"), nil, want...)
}

// roomy is a list with some spare room, which has something in it.
func roomy[T any](list []T, spare T) []T { return append(slices.Clone(list), spare)[:len(list)] }

func TestP16_2_NothingIsTurnedNorKept(t *testing.T) {
	edge := func() manifest.Edge {
		return manifest.Edge{Outs: roomy(names("o", "p"), "spare"), Ins: roomy(names("a", "h"), "spare"), Implicit: roomy(names("i"), "spare"), Order: roomy(names("k"), "spare"), Command: "inc a > o p : d", Depfile: "d"}
	}
	give := func() (manifest.Manifest, []cook.File, []string) {
		h := manifest.Edge{Outs: names("h"), Command: "put h > h"}
		m := manifest.Manifest{Edges: roomy([]manifest.Edge{edge(), h}, manifest.Edge{Command: "spare"}), Defaults: roomy(names("o"), "spare")}
		files := of("h", "old", "a", "#include i\n#include h\n", "build.ninja", "any", "i", "in\n", "o", "old", "k", "")
		for i := range files {
			files[i].B = roomy(files[i].B, '?')
		}
		return m, roomy(files, cook.File{Name: "spare"}), roomy(names("o", "h"), "spare")
	}
	m, files, targets := give()
	made, e := scratch.Eval(m, files, targets)
	if e != api.OK || !sameFiles(made, of("h", "h\n", "o", "in\nh\n", "p", "in\nh\n")) {
		t.Fatalf("Eval = %q, %d", made, e)
	}
	scratch.Fits(m.Edges[0], cook.Dish{Outs: made})
	scratch.Fits(m.Edges[0], cook.Dish{Outs: made[1:], Depfile: "d"})
	m2, files2, targets2 := give()
	whole := func(m manifest.Manifest, files []cook.File, targets []string) []any {
		all := []any{m.Edges[:cap(m.Edges)][2], m.Defaults[:2], files[:len(files)+1], targets[:len(targets)+1]}
		for _, e := range m.Edges {
			for _, row := range [][]string{e.Outs, e.Ins, e.Implicit, e.Order} {
				all = append(all, row[:min(len(row)+1, cap(row))])
			}
		}
		for _, f := range files {
			all = append(all, f.B[:len(f.B)+1])
		}
		return append(all, m)
	}
	if !reflect.DeepEqual(whole(m, files, targets), whole(m2, files2, targets2)) {
		t.Error("Eval turned what it was given")
	}
	// What was made shares nothing, neither with what was given nor among each other.
	for i := range made {
		b := made[i].B[:cap(made[i].B)]
		for j := range b {
			b[j] = byte(i)
		}
	}
	for i := range made {
		for _, b := range made[i].B {
			if b != byte(i) {
				t.Fatalf("%s shares its bytes with another one", made[i].Name)
			}
		}
	}
	if !reflect.DeepEqual(whole(m, files, targets), whole(m2, files2, targets2)) {
		t.Error("what was made shares memory with what was given")
	}
	makes(t, m, files, targets, "h", "h\n", "o", "in\nh\n", "p", "in\nh\n")
}

func TestP16_1_TheGraphStaysAsItIs(t *testing.T) {
	g, same := wide(t), wide(t)
	for n := -1; n < 7; n++ {
		for _, name := range append(g.Outs(), "s", "build.ninja") {
			first := scratch.There(g, n, name)
			scratch.Wrong(g)
			if scratch.There(g, n, name) != first {
				t.Errorf("There(%d, %q) turned", n, name)
			}
		}
	}
	if !reflect.DeepEqual(g, same) {
		t.Error("the graph was turned")
	}
}
