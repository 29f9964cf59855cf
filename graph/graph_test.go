package graph_test

import (
	"math"
	"reflect"
	"slices"
	"strconv"
	"testing"

	"bellows/api"
	"bellows/graph"
	"bellows/manifest"
)

func names(all ...string) []string { return all }

func edges(all ...manifest.Edge) manifest.Manifest { return manifest.Manifest{Edges: all} }

// made is an edge that makes out of its inputs.
func made(out string, ins ...string) manifest.Edge {
	return manifest.Edge{Outs: names(out), Ins: ins, Command: "c"}
}

// whole is a manifest with an edge of each kind, and with each file more than once.
func whole() manifest.Manifest {
	return edges(
		manifest.Edge{Outs: names("app", "map"), Ins: names("x.o", "lib", "x.o"), Order: names("dir"), Command: "link", Depfile: "app.d"},
		manifest.Edge{Outs: names("x.o"), Ins: names("x.c"), Implicit: names("gen.h", "x.h"), Order: names("dir", "gen.h"), Command: "cc x"},
		manifest.Edge{Outs: names("gen.h", "gen.c"), Ins: names("gen.y"), Order: names("dir"), Command: "gen"},
		manifest.Edge{Outs: names("lib"), Ins: names("y.o", "gen.c"), Command: "ar"},
		manifest.Edge{Outs: names("y.o"), Ins: names("y.c"), Implicit: names("gen.h", "x.h"), Command: "cc y"},
		manifest.Edge{Outs: names("dir"), Command: "mkdir"},
		manifest.Edge{Outs: names("doc"), Ins: names("x.h"), Implicit: names("b.md"), Order: names("a.md"), Command: "doc"},
	)
}

// graphed is the graph of a manifest that has one.
func graphed(t *testing.T, m manifest.Manifest) *graph.Graph {
	t.Helper()
	g, e := graph.New(m)
	if g == nil || e != api.OK {
		t.Fatalf("New(%.300q) = %v, %d", m, g, e)
	}
	return g
}

// refused checks that a manifest has no graph.
func refused(t *testing.T, m manifest.Manifest, want api.Errno) {
	t.Helper()
	if g, e := graph.New(m); g != nil || e != want {
		t.Errorf("New(%.300q) = %v, %d, want nil, %d", m, g, e, want)
	}
}

// planned checks a plan.
func planned(t *testing.T, g *graph.Graph, targets []string, want ...int) {
	t.Helper()
	if plan, e := g.Plan(targets); e != api.OK || !slices.Equal(plan, want) {
		t.Errorf("Plan(%.300q) = %v, %d, want %v", targets, plan, e, want)
	}
}

// unplanned checks that there is no plan.
func unplanned(t *testing.T, g *graph.Graph, want api.Errno, targets ...string) {
	t.Helper()
	if plan, e := g.Plan(targets); e != want || len(plan) != 0 {
		t.Errorf("Plan(%.300q) = %v, %d, want nothing, %d", targets, plan, e, want)
	}
}

// has checks a row of names.
func has(t *testing.T, what string, row []string, want ...string) {
	t.Helper()
	if !slices.Equal(row, want) {
		t.Errorf("%s: %.300q, want %.300q", what, row, want)
	}
}

// hasNo checks that there is no such edge.
func hasNo(t *testing.T, g *graph.Graph, n int) {
	t.Helper()
	if e := g.Edge(n); !reflect.DeepEqual(e, manifest.Edge{}) {
		t.Errorf("Edge(%d) = %q", n, e)
	}
	has(t, "Above of no edge", g.Above(n))
}

// unmade checks that no edge makes a file.
func unmade(t *testing.T, g *graph.Graph, path string) {
	t.Helper()
	if n, ok := g.Maker(path); n != 0 || ok {
		t.Errorf("Maker(%.300q) = %d, %t", path, n, ok)
	}
}

// sameEdge: do two edges tell the same?
func sameEdge(a, b manifest.Edge) bool {
	return slices.Equal(a.Outs, b.Outs) && slices.Equal(a.Ins, b.Ins) && slices.Equal(a.Implicit, b.Implicit) &&
		slices.Equal(a.Order, b.Order) && a.Command == b.Command && a.Depfile == b.Depfile
}

func TestP13_2_Example(t *testing.T) {
	g := graphed(t, edges(made("b", "a"), made("c", "b")))
	planned(t, g, names("c"), 0, 1)
	planned(t, g, names("b"), 0)
	planned(t, g, names("a"))
	g = graphed(t, edges(made("c", "b"), made("b", "a")))
	planned(t, g, names("c"), 1, 0)
}

func TestP13_1_MadeTwice(t *testing.T) {
	refused(t, edges(made("a"), made("a")), api.ErrTwice)
	refused(t, edges(made("a", "b"), made("c", "a"), made("d"), made("a", "e")), api.ErrTwice)
	refused(t, edges(manifest.Edge{Outs: names("a", "a")}), api.ErrTwice)
	refused(t, edges(made("z"), manifest.Edge{Outs: names("a", "b", "a")}), api.ErrTwice)
	refused(t, edges(manifest.Edge{Outs: names("a", "b")}, manifest.Edge{Outs: names("c", "d", "b")}), api.ErrTwice)
	refused(t, edges(made(""), made("")), api.ErrTwice)
	// Needed twice is another thing.
	graphed(t, edges(manifest.Edge{Outs: names("a", "b"), Ins: names("c", "c"), Implicit: names("c", "d", "d"), Order: names("c", "d")}, made("c"), made("e", "c", "c")))
	// Neither default nor depfile is an output.
	graphed(t, manifest.Manifest{Edges: []manifest.Edge{{Outs: names("a"), Depfile: "b"}, {Outs: names("b"), Depfile: "a"}}, Defaults: names("a", "a")})
}

func TestP13_1_Cycles(t *testing.T) {
	for _, ring := range []int{1, 2, 3, 7} {
		for kind := range 3 {
			for turn := range ring {
				// One edge of the ring needs in its own way, or by its second output, and others stand around.
				m := edges(made("first", "s"), made("below", "o0"))
				for i := range ring {
					e := manifest.Edge{Outs: names("p"+strconv.Itoa(i), "o"+strconv.Itoa(i)), Ins: names("s", "first")}
					next := "o" + strconv.Itoa((i+1)%ring)
					switch {
					case i != turn:
						e.Ins = append(e.Ins, next)
					case kind == 0:
						e.Ins = append(names("p"+strconv.Itoa((i+1)%ring)), e.Ins...)
					case kind == 1:
						e.Implicit = names("s", next)
					case kind == 2:
						e.Order = names(next, "s")
					}
					m.Edges = append(m.Edges, e)
				}
				refused(t, m, api.ErrCycle)
				m.Defaults = names("first") // which stands aside of it
				refused(t, m, api.ErrCycle)
				// Without the ring's last link it is none.
				e := &m.Edges[2+turn]
				e.Ins, e.Implicit, e.Order = nil, nil, nil
				graphed(t, m)
			}
		}
	}
}

func TestP13_1_TwiceCountsAheadOfACycle(t *testing.T) {
	refused(t, edges(made("a", "a"), made("b"), made("b")), api.ErrTwice)
	refused(t, edges(made("a", "b"), made("b", "a"), manifest.Edge{Outs: names("c", "c")}), api.ErrTwice)
	refused(t, edges(made("a", "a"), made("a", "a")), api.ErrTwice)
	refused(t, edges(made("a", "a"), made("b")), api.ErrCycle)
}

func TestP13_1_NoCycle(t *testing.T) {
	// What comes together again is none, nor what is needed by two ways.
	g := graphed(t, edges(made("d", "b", "c"), made("c", "a"), made("b", "a"), made("a", "s"), made("e", "d", "a", "s")))
	planned(t, g, names("e"), 3, 1, 2, 0, 4)
	// A depfile that the edge itself or one below it makes or needs is no need.
	graphed(t, edges(manifest.Edge{Outs: names("a"), Ins: names("b"), Depfile: "a"}, manifest.Edge{Outs: names("b"), Depfile: "a"}))
}

func TestP13_1_Edge(t *testing.T) {
	m := whole()
	g := graphed(t, m)
	for n, e := range m.Edges {
		if got := g.Edge(n); !sameEdge(got, e) {
			t.Errorf("Edge(%d) = %q, want %q", n, got, e)
		}
	}
	for _, n := range []int{-1, -2, len(m.Edges), len(m.Edges) + 1, 1 << 32, math.MaxInt, math.MinInt} {
		hasNo(t, g, n)
	}
}

func TestP13_1_Maker(t *testing.T) {
	m := whole()
	g := graphed(t, m)
	for n, e := range m.Edges {
		for _, out := range e.Outs {
			if got, ok := g.Maker(out); got != n || !ok {
				t.Errorf("Maker(%q) = %d, %t, want %d", out, got, ok, n)
			}
		}
	}
	for _, path := range []string{"x.c", "x.h", "a.md", "app.d", "", "ap", "appp", "./app", "app/", "link", "App", "\xff"} {
		unmade(t, g, path)
	}
}

func TestP13_2_SourcesAndOuts(t *testing.T) {
	g := graphed(t, whole())
	has(t, "Sources", g.Sources(), "a.md", "b.md", "gen.y", "x.c", "x.h", "y.c")
	has(t, "Outs", g.Outs(), "app", "dir", "doc", "gen.c", "gen.h", "lib", "map", "x.o", "y.o")
	// By their bytes, in which a greater letter stands ahead, and a longer name behind.
	g = graphed(t, edges(manifest.Edge{Outs: names("b", "a1", "B", "a", "a/", "a-b"), Ins: names("10", "9", "é", "z", "_"), Order: names("Z", "9")}))
	has(t, "Sources", g.Sources(), "10", "9", "Z", "_", "z", "é")
	has(t, "Outs", g.Outs(), "B", "a", "a-b", "a/", "a1", "b")
	// A default is none by that.
	g = graphed(t, manifest.Manifest{Edges: []manifest.Edge{made("a", "b")}, Defaults: names("c")})
	has(t, "Sources", g.Sources(), "b")
	has(t, "Outs", g.Outs(), "a")
}

func TestP13_2_Targets(t *testing.T) {
	m := whole()
	has(t, "Targets", graphed(t, m).Targets(), "app", "map", "doc")
	for _, defaults := range [][]string{{"lib"}, {"x.c"}, {"y.o", "app"}, {"doc", "doc", "a.md"}, {"none"}, {""}} {
		m.Defaults = defaults
		has(t, "Targets", graphed(t, m).Targets(), defaults...)
	}
	m.Defaults = []string{}
	has(t, "Targets", graphed(t, m).Targets(), "app", "map", "doc")
	// In the order of edges, and of an edge's outputs, be they rising or not.
	m = edges(manifest.Edge{Outs: names("z", "m", "b", "y")}, made("a", "m"), manifest.Edge{Outs: names("x"), Implicit: names("a")}, manifest.Edge{Outs: names("c", "k"), Order: names("y")})
	has(t, "Targets", graphed(t, m).Targets(), "z", "b", "x", "c", "k")
}

func TestP13_2_Plan(t *testing.T) {
	g := graphed(t, whole())
	planned(t, g, nil)
	planned(t, g, []string{})
	planned(t, g, names("dir"), 5)
	planned(t, g, names("gen.h"), 5, 2)
	planned(t, g, names("gen.c"), 5, 2)
	planned(t, g, names("x.o"), 5, 2, 1)
	planned(t, g, names("lib"), 5, 2, 4, 3)
	planned(t, g, names("app"), 5, 2, 1, 4, 3, 0)
	planned(t, g, names("map"), 5, 2, 1, 4, 3, 0)
	planned(t, g, names("doc"), 6)
	planned(t, g, names("doc", "app"), 5, 2, 1, 4, 3, 0, 6)
	planned(t, g, names("app", "doc", "lib", "app"), 5, 2, 1, 4, 3, 0, 6)
	planned(t, g, names("gen.h", "gen.c"), 5, 2)
	planned(t, g, g.Targets(), 5, 2, 1, 4, 3, 0, 6)
	planned(t, g, g.Outs(), 5, 2, 1, 4, 3, 0, 6)
}

func TestP13_2_PlanOfSources(t *testing.T) {
	g := graphed(t, whole())
	for _, source := range g.Sources() {
		planned(t, g, names(source))
		planned(t, g, names(source, "doc", source), 6)
	}
	planned(t, g, g.Sources())
}

func TestP13_2_PlanOfMissing(t *testing.T) {
	g := graphed(t, whole())
	for _, target := range []string{"none", "", "./app", "app/", "app.d", "link", "x", "\xff"} {
		unplanned(t, g, api.ErrMissing, target)
		unplanned(t, g, api.ErrMissing, target, "app")
		unplanned(t, g, api.ErrMissing, "app", "x.c", target)
	}
	// Defaults are told as they are, be they files of the graph or not.
	g = graphed(t, manifest.Manifest{Edges: []manifest.Edge{made("a", "b")}, Defaults: names("a", "c")})
	unplanned(t, g, api.ErrMissing, g.Targets()...)
	planned(t, g, names("a", "b"), 0)
}

func TestP13_2_TheFirstThatCanBeIsNext(t *testing.T) {
	// What becomes ready with a lower number goes ahead of all that was ready with higher ones.
	g := graphed(t, edges(made("a", "d"), made("b", "c"), made("c", "s"), made("d", "b"), made("e", "s"), made("f", "a")))
	planned(t, g, names("f", "e"), 2, 1, 3, 0, 4, 5)
	// And what becomes ready with a higher one goes behind those.
	g = graphed(t, edges(made("a"), made("b", "e"), made("c"), made("d", "a"), made("e", "a")))
	planned(t, g, g.Outs(), 0, 2, 3, 4, 1)
	g = graphed(t, edges(made("a", "c"), made("b", "c"), made("c"), made("d")))
	planned(t, g, names("d", "b", "a"), 2, 0, 1, 3)
	// One of two makers is not enough.
	g = graphed(t, edges(made("a", "b", "d"), made("b"), made("c"), made("d")))
	planned(t, g, names("c", "a"), 1, 2, 3, 0)
}

func TestP13_2_Above(t *testing.T) {
	g := graphed(t, whole())
	for n, want := range [][]string{
		{"dir", "gen.c", "gen.h", "lib", "x.o", "y.o"},
		{"dir", "gen.c", "gen.h"},
		{"dir"},
		{"dir", "gen.c", "gen.h", "y.o"},
		{"dir", "gen.c", "gen.h"},
		nil,
		nil,
	} {
		has(t, "Above("+strconv.Itoa(n)+")", g.Above(n), want...)
	}
	// All outputs of one that is needed for one of them, but none of its own.
	g = graphed(t, edges(manifest.Edge{Outs: names("c", "b", "a")}, manifest.Edge{Outs: names("e", "d"), Order: names("b")}, made("f", "d")))
	has(t, "Above(0)", g.Above(0))
	has(t, "Above(1)", g.Above(1), "a", "b", "c")
	has(t, "Above(2)", g.Above(2), "a", "b", "c", "d", "e")
}

func TestP13_2_EdgesWithoutOutputs(t *testing.T) {
	// No file needs such an edge, so it is in no plan; what it needs is needed all the same.
	g := graphed(t, edges(manifest.Edge{}, manifest.Edge{Ins: names("a", "s"), Command: "c"}, made("a", "t"), manifest.Edge{Order: names("u")}, made("b")))
	has(t, "Sources", g.Sources(), "s", "t", "u")
	has(t, "Outs", g.Outs(), "a", "b")
	has(t, "Targets", g.Targets(), "b")
	has(t, "Above", g.Above(1), "a")
	planned(t, g, names("a", "b", "s", "u"), 2, 4)
	if e := g.Edge(1); !sameEdge(e, manifest.Edge{Ins: names("a", "s"), Command: "c"}) {
		t.Errorf("Edge(1) = %q", e)
	}
}

func TestP13_2_NoGraph(t *testing.T) {
	empty := graphed(t, manifest.Manifest{})
	for _, g := range []*graph.Graph{nil, {}, empty, graphed(t, manifest.Manifest{Edges: []manifest.Edge{}, Defaults: []string{}})} {
		for _, n := range []int{0, 1, -1, math.MaxInt, math.MinInt} {
			hasNo(t, g, n)
		}
		unmade(t, g, "")
		unmade(t, g, "a")
		has(t, "Sources", g.Sources())
		has(t, "Outs", g.Outs())
		has(t, "Targets", g.Targets())
	}
	for _, targets := range [][]string{nil, {"a"}} {
		unplanned(t, nil, api.ErrState, targets...)
	}
	planned(t, empty, nil)
	unplanned(t, empty, api.ErrMissing, "a")
	defaults := graphed(t, manifest.Manifest{Defaults: names("a")})
	has(t, "Targets", defaults.Targets(), "a")
	unplanned(t, defaults, api.ErrMissing, "a")
}

func TestP13_2_NamesThatAreNoPaths(t *testing.T) {
	// A manifest that was not read may have any: they are files like all others.
	g := graphed(t, edges(made("", "a b"), made("./a", "", "a\x00"), made("a", "./a", "\xff")))
	has(t, "Sources", g.Sources(), "a\x00", "a b", "\xff")
	has(t, "Outs", g.Outs(), "", "./a", "a")
	has(t, "Targets", g.Targets(), "a")
	has(t, "Above", g.Above(2), "", "./a")
	planned(t, g, names("a", "\xff"), 0, 1, 2)
}

// spoil writes over lists, and over the room behind them.
func spoil(lists ...[]string) {
	for _, list := range lists {
		list = list[:cap(list)]
		for i := range list {
			list[i] = "spoilt"
		}
	}
}

// tellsAll checks all that the graph of whole() tells.
func tellsAll(t *testing.T, g *graph.Graph, defaults ...string) {
	t.Helper()
	for n, e := range whole().Edges {
		if got := g.Edge(n); !sameEdge(got, e) {
			t.Errorf("Edge(%d) = %q, want %q", n, got, e)
		}
	}
	has(t, "Sources", g.Sources(), "a.md", "b.md", "gen.y", "x.c", "x.h", "y.c")
	has(t, "Outs", g.Outs(), "app", "dir", "doc", "gen.c", "gen.h", "lib", "map", "x.o", "y.o")
	has(t, "Targets", g.Targets(), defaults...)
	has(t, "Above", g.Above(0), "dir", "gen.c", "gen.h", "lib", "x.o", "y.o")
	planned(t, g, names("app"), 5, 2, 1, 4, 3, 0)
}

func TestP13_1_WhatIsHandedInIsNotKept(t *testing.T) {
	m := whole()
	m.Defaults = names("lib", "app")
	g := graphed(t, m)
	tellsAll(t, g, "lib", "app")
	spoil(m.Defaults)
	for i := range m.Edges {
		e := &m.Edges[i]
		spoil(e.Outs, e.Ins, e.Implicit, e.Order)
		*e = manifest.Edge{}
	}
	tellsAll(t, g, "lib", "app")
}

func TestP13_1_WhatIsHandedInIsNotChanged(t *testing.T) {
	const spare = "spare"
	roomy := func(list []string) []string { return append(slices.Clip(list), spare, spare)[:len(list)] }
	m := whole()
	m.Defaults = names("lib", "app")
	for i := range m.Edges {
		e := &m.Edges[i]
		e.Outs, e.Ins, e.Implicit, e.Order = roomy(e.Outs), roomy(e.Ins), roomy(e.Implicit), roomy(e.Order)
	}
	m.Defaults = roomy(m.Defaults)
	m.Edges = append(m.Edges, made(spare))[:len(m.Edges)]
	targets := roomy(names("y.o", "app", "x.c", "app"))
	g := graphed(t, m)
	planned(t, g, targets, 5, 2, 1, 4, 3, 0)
	tellsAll(t, g, "lib", "app")
	has(t, "targets", targets, "y.o", "app", "x.c", "app")
	has(t, "defaults", m.Defaults, "lib", "app")
	rows := [][]string{targets, m.Defaults}
	for i, e := range whole().Edges {
		if !sameEdge(m.Edges[i], e) {
			t.Errorf("the edge %d is turned: %q", i, m.Edges[i])
		}
		e = m.Edges[i]
		rows = append(rows, e.Outs, e.Ins, e.Implicit, e.Order)
	}
	for _, row := range rows {
		has(t, "the room behind", row[len(row):len(row)+2], spare, spare)
	}
	if e := m.Edges[:len(m.Edges)+1][len(m.Edges)]; !sameEdge(e, made(spare)) {
		t.Errorf("the room behind the edges: %q", e)
	}
}

func TestP13_2_WhatIsHandedOutIsNew(t *testing.T) {
	for _, want := range [][]string{{"app", "map", "doc"}, {"lib", "app"}} {
		m := whole()
		if len(want) == 2 {
			m.Defaults = slices.Clone(want)
		}
		g := graphed(t, m)
		for n := range m.Edges {
			e := g.Edge(n)
			spoil(e.Outs, e.Ins, e.Implicit, e.Order, g.Above(n))
		}
		spoil(g.Sources(), g.Outs(), g.Targets())
		plan, _ := g.Plan(names("app"))
		plan = plan[:cap(plan)]
		for i := range plan {
			plan[i] = -1
		}
		tellsAll(t, g, want...)
	}
	// Lists that shared one room when they were handed in share none when they are handed out.
	room := names("a", "b", "c", "d")
	g := graphed(t, edges(manifest.Edge{Outs: room[:1], Ins: room[1:2], Implicit: room[2:3], Order: room[3:]}))
	e := g.Edge(0)
	spoil(e.Outs)
	if e.Outs = names("a"); !sameEdge(e, manifest.Edge{Outs: names("a"), Ins: names("b"), Implicit: names("c"), Order: names("d")}) {
		t.Errorf("Edge(0) = %q", e)
	}
}

func TestP13_2_LongWays(t *testing.T) {
	const n = 1 << 17
	name := func(i int) string { return "o" + strconv.Itoa(i) }
	var rising, falling, wide manifest.Manifest
	for i := range n {
		rising.Edges = append(rising.Edges, made(name(i+1), name(i)))
		falling.Edges = append(falling.Edges, made(name(i), name(i+1)))
		wide.Edges = append(wide.Edges, made(name(i), "s"))
	}
	up := make([]int, n)
	for i := range up {
		up[i] = i
	}
	planned(t, graphed(t, rising), names(name(n)), up...)
	has(t, "Sources", graphed(t, rising).Sources(), name(0))
	if l := graphed(t, rising).Above(n - 1); len(l) != n-1 || !slices.IsSorted(l) {
		t.Errorf("Above: %d", len(l))
	}
	g := graphed(t, wide)
	planned(t, g, g.Targets(), up...)
	down := slices.Clone(up)
	slices.Reverse(down)
	planned(t, graphed(t, falling), names(name(0)), down...)
	falling.Edges[n-1].Order = names(name(0))
	refused(t, falling, api.ErrCycle)
	rising.Edges[0].Ins = names(name(n))
	refused(t, rising, api.ErrCycle)
}
