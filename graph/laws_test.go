package graph_test

import (
	"math/rand"
	"slices"
	"strconv"
	"testing"

	"bellows/api"
	"bellows/graph"
	"bellows/manifest"
)

// model tells what a graph tells by the words alone: edge is held against edge.
type model struct {
	m      manifest.Manifest
	stands [][]bool // does the one edge stand below the other one?
}

func needsBy(e manifest.Edge) []string { return slices.Concat(e.Ins, e.Implicit, e.Order) }

// needsOne: does the edge a need a file that b makes?
func needsOne(a, b manifest.Edge) bool {
	return slices.ContainsFunc(needsBy(a), func(s string) bool { return slices.Contains(b.Outs, s) })
}

func modelOf(m manifest.Manifest) model {
	o := model{m: m}
	for _, a := range m.Edges {
		var row []bool
		for _, b := range m.Edges {
			row = append(row, needsOne(a, b))
		}
		o.stands = append(o.stands, row)
	}
	for over := range m.Edges {
		for a := range m.Edges {
			for b := range m.Edges {
				o.stands[a][b] = o.stands[a][b] || o.stands[a][over] && o.stands[over][b]
			}
		}
	}
	return o
}

func (o model) fault() api.Errno {
	var outs []string
	for _, e := range o.m.Edges {
		outs = append(outs, e.Outs...)
	}
	for i, out := range outs {
		if slices.Contains(outs[:i], out) {
			return api.ErrTwice
		}
	}
	for n := range o.m.Edges {
		if o.stands[n][n] {
			return api.ErrCycle
		}
	}
	return api.OK
}

func (o model) maker(path string) int {
	return slices.IndexFunc(o.m.Edges, func(e manifest.Edge) bool { return slices.Contains(e.Outs, path) })
}

func (o model) isNeeded(path string) bool {
	return slices.ContainsFunc(o.m.Edges, func(e manifest.Edge) bool { return slices.Contains(needsBy(e), path) })
}

func risingOnce(all []string) []string {
	slices.Sort(all)
	return slices.Compact(all)
}

func (o model) sources() []string {
	var all []string
	for _, e := range o.m.Edges {
		for _, need := range needsBy(e) {
			if o.maker(need) < 0 {
				all = append(all, need)
			}
		}
	}
	return risingOnce(all)
}

func (o model) outs() []string {
	var all []string
	for _, e := range o.m.Edges {
		all = append(all, e.Outs...)
	}
	return risingOnce(all)
}

func (o model) targets() []string {
	if len(o.m.Defaults) > 0 {
		return o.m.Defaults
	}
	var all []string
	for _, e := range o.m.Edges {
		for _, out := range e.Outs {
			if !o.isNeeded(out) {
				all = append(all, out)
			}
		}
	}
	return all
}

func (o model) above(n int) []string {
	var all []string
	for b, e := range o.m.Edges {
		if o.stands[n][b] {
			all = append(all, e.Outs...)
		}
	}
	return risingOnce(all)
}

func (o model) plan(targets []string) ([]int, api.Errno) {
	among := make([]bool, len(o.m.Edges))
	for _, target := range targets {
		n := o.maker(target)
		if n < 0 && !o.isNeeded(target) {
			return nil, api.ErrMissing
		}
		for b := range among {
			among[b] = among[b] || n >= 0 && (n == b || o.stands[n][b])
		}
	}
	var plan []int
	for n := 0; n < len(among); {
		waits := slices.ContainsFunc(needsBy(o.m.Edges[n]), func(need string) bool {
			maker := o.maker(need)
			return maker >= 0 && !slices.Contains(plan, maker)
		})
		if among[n] && !waits && !slices.Contains(plan, n) {
			plan = append(plan, n)
			n = 0 // from the first one again
		} else {
			n++
		}
	}
	return plan, api.OK
}

// meets holds all that a graph tells against the model, and against what follows, for some rows of targets; it tells whether there is a graph.
func meets(t *testing.T, m manifest.Manifest, rows ...[]string) bool {
	t.Helper()
	o := modelOf(m)
	if e := o.fault(); e != api.OK {
		refused(t, m, e)
		return false
	}
	g := graphed(t, m)
	for n, e := range m.Edges {
		if got := g.Edge(n); !sameEdge(got, e) {
			t.Errorf("%q: Edge(%d) = %q", m, n, got)
		}
		has(t, "Above", g.Above(n), o.above(n)...)
		for _, out := range e.Outs {
			if got, ok := g.Maker(out); got != n || !ok {
				t.Errorf("%q: Maker(%q) = %d, %t", m, out, got, ok)
			}
		}
	}
	hasNo(t, g, -1)
	hasNo(t, g, len(m.Edges))
	for _, source := range o.sources() {
		unmade(t, g, source)
	}
	has(t, "Sources", g.Sources(), o.sources()...)
	has(t, "Outs", g.Outs(), o.outs()...)
	has(t, "Targets", g.Targets(), o.targets()...)
	for _, row := range append(rows, nil, g.Outs(), g.Sources(), o.targets()) {
		plan, e := o.plan(row)
		if e != api.OK {
			unplanned(t, g, e, row...)
			continue
		}
		planned(t, g, row, plan...)
		follows(t, g, row)
	}
	if t.Failed() {
		t.Fatalf("the manifest: %q", m)
	}
	return true
}

// follows checks that in a plan each edge stands behind all below which it stands, once, and that a plan of fewer targets is within it.
func follows(t *testing.T, g *graph.Graph, row []string) {
	t.Helper()
	plan, e := g.Plan(row)
	if e != api.OK {
		t.Fatalf("Plan(%q): %d", row, e)
	}
	var done []string
	for i, n := range plan {
		for _, out := range g.Above(n) {
			if !slices.Contains(done, out) {
				t.Errorf("Plan(%q) = %v: %q is made behind %d", row, plan, out, n)
			}
		}
		if slices.Contains(plan[:i], n) {
			t.Errorf("Plan(%q) = %v", row, plan)
		}
		done = append(done, g.Edge(n).Outs...)
	}
	for i := range row {
		fewer, e := g.Plan(slices.Delete(slices.Clone(row), i, i+1))
		if e != api.OK || slices.ContainsFunc(fewer, func(n int) bool { return !slices.Contains(plan, n) }) {
			t.Errorf("Plan(%q) = %v, and without %q %v, %d", row, plan, row[i], fewer, e)
		}
	}
}

func name(n int) string { return "f" + strconv.Itoa(n) }

// someOf are all rows of names of f0 up to that of n - 1.
func someOf(n int) [][]string {
	rows := [][]string{nil}
	for i := range n {
		for _, row := range rows {
			rows = append(rows, append(slices.Clip(row), name(i)))
		}
	}
	return rows
}

// linked is edges that make one file each, of which those need each other of which the bits tell so, one by one; kind tells in which way.
func linked(n, bits int, loops bool, kind func(a, b int) int) manifest.Manifest {
	var m manifest.Manifest
	for a := range n {
		e := manifest.Edge{Outs: names(name(a))}
		rows := []*[]string{&e.Ins, &e.Implicit, &e.Order}
		for b := range n {
			if a == b && !loops {
				continue
			}
			if bits&1 > 0 {
				row := rows[kind(a, b)]
				*row = append(*row, name(b))
			}
			bits >>= 1
		}
		m.Edges = append(m.Edges, e)
	}
	return m
}

func TestP13_2_AllGraphsOfThree(t *testing.T) {
	for kind := range 3 {
		right := 0
		for bits := range 1 << 9 {
			if meets(t, linked(3, bits, true, func(a, b int) int { return (kind + a + b) % 3 }), someOf(3)...) {
				right++
			}
		}
		if right != 25 { // as many as there are without a cycle
			t.Errorf("%d have a graph", right)
		}
	}
}

func TestP13_2_AllGraphsOfFour(t *testing.T) {
	right := 0
	for bits := range 1 << 12 {
		if meets(t, linked(4, bits, false, func(a, b int) int { return (a + 2*b) % 3 }), someOf(4)...) {
			right++
		}
	}
	if right != 543 { // as many as there are without a cycle
		t.Errorf("%d have a graph", right)
	}
}

// anyManifest has its edges in any order. One name in far is any that there may be, so that a file is made twice, or needs itself, now and then.
func anyManifest(chance *rand.Rand, most, far int) manifest.Manifest {
	var m manifest.Manifest
	var outs []string
	for range chance.Intn(most + 1) {
		e := manifest.Edge{Command: strconv.Itoa(chance.Int())}
		for _, row := range []*[]string{&e.Ins, &e.Implicit, &e.Order} {
			for range chance.Intn(3) {
				switch {
				case chance.Intn(far) == 0:
					*row = append(*row, name(chance.Intn(3*most)))
				case len(outs) == 0 || chance.Intn(3) == 0:
					*row = append(*row, "s"+strconv.Itoa(chance.Intn(5)))
				default:
					*row = append(*row, outs[chance.Intn(len(outs))])
				}
			}
		}
		for range 1 + chance.Intn(3) - chance.Intn(20)/19 {
			out := name(len(outs))
			if chance.Intn(far) == 0 {
				out = name(chance.Intn(3 * most))
			}
			e.Outs, outs = append(e.Outs, out), append(outs, out)
		}
		m.Edges = append(m.Edges, e)
	}
	chance.Shuffle(len(m.Edges), func(i, j int) { m.Edges[i], m.Edges[j] = m.Edges[j], m.Edges[i] })
	for range chance.Intn(3) * chance.Intn(2) {
		m.Defaults = append(m.Defaults, some(chance, append(outs, "s0", "s1", "none")...))
	}
	return m
}

// some is one of these.
func some(chance *rand.Rand, of ...string) string { return of[chance.Intn(len(of))] }

func TestP13_2_ManyGraphs(t *testing.T) {
	right, all := 0, 0
	for seed := range int64(6000) {
		chance := rand.New(rand.NewSource(seed))
		m := anyManifest(chance, 1+chance.Intn(12), 40)
		files := append(modelOf(m).outs(), "s0", "s1", "s2", "none")
		var rows [][]string
		for range 6 {
			var row []string
			for range chance.Intn(4) {
				row = append(row, some(chance, files...))
			}
			rows = append(rows, row)
		}
		if all++; meets(t, m, rows...) {
			right++
		}
	}
	if right < all/4 || right > all*9/10 {
		t.Errorf("%d of %d have a graph", right, all)
	}
}

func TestP13_3_AllEdgesHaveAPlan(t *testing.T) {
	chance := rand.New(rand.NewSource(13))
	for range 300 {
		m := anyManifest(chance, 60, 1<<40)
		g := graphed(t, m)
		follows(t, g, g.Outs())
		plan, e := g.Plan(g.Outs())
		makers := 0
		for _, e := range m.Edges {
			if len(e.Outs) > 0 {
				makers++
			}
		}
		if e != api.OK || len(plan) != makers {
			t.Errorf("%q: Plan of all outputs = %v, %d", m, plan, e)
		}
	}
}

func TestP13_3_MoreTargets(t *testing.T) {
	chance := rand.New(rand.NewSource(14))
	for range 300 {
		g := graphed(t, anyManifest(chance, 40, 1<<40))
		var row []string
		var ahead []int
		files := append(g.Outs(), g.Sources()...)
		for range min(8, len(files)) {
			row = append(row, some(chance, files...))
			plan, e := g.Plan(row)
			// An edge that is the first of all that can be is the first of fewer, too: so these stand in the order that they had.
			rest := slices.DeleteFunc(slices.Clone(plan), func(n int) bool { return !slices.Contains(ahead, n) })
			if e != api.OK || !slices.Equal(rest, ahead) {
				t.Errorf("Plan(%q) = %v, %d, and ahead %v", row, plan, e, ahead)
			}
			ahead = plan
		}
		follows(t, g, row)
	}
}

func TestP13_2_TheSameIsToldAgain(t *testing.T) {
	m := anyManifest(rand.New(rand.NewSource(15)), 60, 1<<40)
	g := graphed(t, m)
	plan, _ := g.Plan(g.Outs())
	sources, outs, targets, above := g.Sources(), g.Outs(), g.Targets(), g.Above(plan[len(plan)-1])
	for range 50 {
		for _, g := range []*graph.Graph{g, graphed(t, m)} {
			planned(t, g, outs, plan...)
			has(t, "Sources", g.Sources(), sources...)
			has(t, "Outs", g.Outs(), outs...)
			has(t, "Targets", g.Targets(), targets...)
			has(t, "Above", g.Above(plan[len(plan)-1]), above...)
		}
	}
}
