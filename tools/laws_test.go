package tools_test

import (
	"fmt"
	"math/rand"
	"slices"
	"strconv"
	"strings"
	"testing"

	"bellows/api"
	"bellows/clean"
	"bellows/db"
	"bellows/disk"
	"bellows/engine"
	"bellows/graph"
	"bellows/manifest"
	"bellows/stale"
	"bellows/tools"
)

// pick is one of these.
func pick(chance *rand.Rand, of ...string) string { return of[chance.Intn(len(of))] }

func sources() []string { return names("s0", "s1", "s2", "s3") }

func outputs() []string { return names("o0", "o1", "o2", "p/o3", "o4", "o5", "o6") }

// anyManifest makes some outputs, each of sources and of outputs ahead, in any order.
func anyManifest(chance *rand.Rand) string {
	known := sources()
	outs := outputs()
	chance.Shuffle(len(outs), func(i, j int) { outs[i], outs[j] = outs[j], outs[i] })
	var edges []string
	for len(outs) > 0 {
		n := min(len(outs), 1+chance.Intn(5)/4)
		a, b := pick(chance, known...), pick(chance, known...)
		by := pick(chance, "cat "+a, "cat "+a+" "+b, "rev "+a+" | "+b, "once "+a, "once "+a+" "+b, "inc "+a, "inc s0 || "+b, "inc s2 | "+b, "put || "+a, "put")
		if chance.Intn(25) == 0 {
			by = "fail || " + a
		}
		if chance.Intn(5) > 0 {
			edges = append(edges, "build "+strings.Join(outs[:n], " ")+": "+by+"\n")
			known = append(known, outs[:n]...)
		}
		outs = outs[n:]
	}
	chance.Shuffle(len(edges), func(i, j int) { edges[i], edges[j] = edges[j], edges[i] })
	text := rules + strings.Join(edges, "")
	if chance.Intn(4) == 0 {
		text += "default " + pick(chance, known...) + "\n"
	}
	return text
}

// life is a tree, and what happens to it.
type life struct {
	*tree
	chance    *rand.Rand
	manifests []string
	met       map[string]int
}

func begun(t *testing.T, seed int64, met map[string]int) *life {
	t.Helper()
	chance := rand.New(rand.NewSource(seed))
	x := &life{tree: planted(t, ""), chance: chance, met: met}
	for range 3 {
		x.manifests = append(x.manifests, anyManifest(chance))
	}
	x.mend()
	return x
}

func (x *life) anyText() string {
	return pick(x.chance, "", "1", "12\n", "#include s1\n", "#include s3\n2\n", "#include o0\n", "#include o1\nrest", "#include none\n")
}

// mend writes a manifest, and all sources that are not there.
func (x *life) mend() {
	x.t.Helper()
	x.write("build.ninja", pick(x.chance, x.manifests...))
	for _, name := range sources() {
		if _, e := x.d.Stat(name); e != api.OK {
			x.write(name, x.anyText())
		}
	}
}

// crashed is a build in which the disk goes down, mostly, and a restart.
func (x *life) crashed() {
	x.t.Helper()
	x.d.Arm(x.chance.Intn(25))
	engine.Build(x.d, nil)
	k := disk.Keep{Dir: x.chance.Intn(14)}
	for range x.chance.Intn(4) {
		k.Tails = append(k.Tails, x.chance.Intn(3)*x.chance.Intn(200))
	}
	x.d.Restart(k)
	x.mend()
}

// turns does something but building.
func (x *life) turns() {
	x.t.Helper()
	file := pick(x.chance, append(outputs(), append(sources(), sources()...)...)...)
	switch x.chance.Intn(9) {
	case 0, 1, 2:
		x.write(file, x.anyText())
	case 3:
		must(x.t, x.d.Append(file, []byte(x.anyText())))
	case 4, 5:
		x.d.Remove(file)
	case 6:
		x.write("build.ninja", pick(x.chance, x.manifests...))
	case 7:
		x.crashed()
	case 8:
		clean.Clean(x.d)
		clean.Compact(x.d)
	}
}

// targets are some of what may be built, or none.
func (x *life) targets() []string {
	var all []string
	for range x.chance.Intn(3) * x.chance.Intn(2) {
		all = append(all, pick(x.chance, append(outputs(), "s0")...))
	}
	return all
}

// judged is a plan, and of each edge in it why it is stale, by the layers below.
type judged struct {
	g    *graph.Graph
	plan []int
	why  map[int]stale.Why
}

func (x *life) judged(targets []string) (judged, api.Errno) {
	x.t.Helper()
	g, e := engine.Load(x.d)
	must(x.t, e)
	b, e := db.Open(x.d)
	must(x.t, e)
	if len(targets) == 0 {
		targets = g.Targets()
	}
	plan, e := g.Plan(targets)
	j := judged{g: g, plan: plan, why: map[int]stale.Why{}}
	for _, n := range plan {
		j.why[n] = stale.Look(x.d, b, g, n)
	}
	return j, e
}

// below: does the edge n stand below the edge m, by the words?
func (j judged) below(n, m int) bool {
	edge := j.g.Edge(n)
	for _, need := range slices.Concat(edge.Ins, edge.Implicit, edge.Order) {
		if maker, made := j.g.Maker(need); made && (maker == m || j.below(maker, m)) {
			return true
		}
	}
	return false
}

// reasons are what Explain must tell, and rerun what Would must.
func (j judged) reasons() []tools.Reason {
	var all []tools.Reason
	for _, n := range j.plan {
		if j.why[n] != stale.Fresh {
			all = append(all, tools.Reason{Out: j.g.Edge(n).Outs[0], Why: j.why[n]})
		}
	}
	return all
}

func (j judged) rerun() []string {
	var all []string
	for _, n := range j.plan {
		isStale := func(m int) bool { return j.why[m] != stale.Fresh && (n == m || j.below(n, m)) }
		if slices.ContainsFunc(j.plan, isStale) {
			all = append(all, j.g.Edge(n).Outs[0])
		}
	}
	return all
}

// firsts are the stale ones of a plan above each of which none is stale.
func (j judged) firsts() []string {
	var all []string
	for _, n := range j.plan {
		isAbove := func(m int) bool { return j.why[m] != stale.Fresh && j.below(n, m) }
		if j.why[n] != stale.Fresh && !slices.ContainsFunc(j.plan, isAbove) {
			all = append(all, j.g.Edge(n).Outs[0])
		}
	}
	return all
}

// asks asks both of what they must tell, and tells it.
func (x *life) asks(targets []string) (judged, bool) {
	x.t.Helper()
	j, e := x.judged(targets)
	if e != api.OK {
		x.fails(e, targets...)
		return j, false
	}
	x.because(targets, j.reasons()...)
	x.would(targets, j.rerun()...)
	if len(j.rerun()) > len(j.reasons()) {
		x.met["more would than are stale"]++
	}
	return j, true
}

// follows asks for what follows of a build.
func (x *life) follows(targets []string) {
	x.t.Helper()
	j, ok := x.asks(targets)
	if !ok {
		return
	}
	would, reasons := j.rerun(), j.reasons()
	r, e := engine.Build(x.d, targets)
	x.met["build "+strconv.Itoa(int(e))]++
	if !isPartOf(r.Ran, would) {
		x.t.Errorf("a build runs %q, want none but %q", r.Ran, would)
	}
	if len(r.Ran) < len(would) && e == api.OK {
		x.met["fewer were run"]++
	}
	switch {
	case len(r.Ran) > 0 && r.Ran[0] != reasons[0].Out:
		x.t.Errorf("a build first runs %q, want %v", r.Ran[0], reasons[0])
	case len(r.Ran) == 0 && e == api.ErrCommand:
		x.met["the first one fails"]++
		x.lost(reasons[0].Out)
	case len(r.Ran) == 0 && e == api.OK && len(reasons) > 0:
		x.t.Errorf("a build runs nothing, want %v first", reasons[0])
	}
	if e == api.OK {
		x.would(targets)
		x.because(targets)
	}
}

// lost asks for none of the outputs of the edge that makes one of them.
func (x *life) lost(out string) {
	x.t.Helper()
	g, _ := engine.Load(x.d)
	n, _ := g.Maker(out)
	for _, name := range g.Edge(n).Outs {
		if _, e := x.d.Stat(name); e != api.ErrMissing {
			x.t.Errorf("%s is there", name)
		}
	}
}

// comesFirst builds one edge that is stale, none above which is: nothing else is run.
func (x *life) comesFirst() {
	x.t.Helper()
	j, e := x.judged(nil)
	if e != api.OK || len(j.firsts()) == 0 {
		return
	}
	out := pick(x.chance, j.firsts()...)
	x.would(names(out), out)
	r, e := engine.Build(x.d, names(out))
	x.met["one "+strconv.Itoa(int(e))]++
	switch e {
	case api.OK:
		if !slices.Equal(r.Ran, names(out)) {
			x.t.Errorf("a build of %q runs %q", out, r.Ran)
		}
	case api.ErrCommand:
		x.lost(out)
		fallthrough
	default:
		if len(r.Ran) != 0 {
			x.t.Errorf("a build of %q tells %d, and runs %q", out, e, r.Ran)
		}
	}
}

// isPartOf: is a list what another one is, some left out?
func isPartOf(l, whole []string) bool {
	for _, name := range whole {
		if len(l) > 0 && l[0] == name {
			l = l[1:]
		}
	}
	return len(l) == 0
}

// TestP23_3_ManyLives: whatever happened ahead, both tell what the words say, and a build does what was told.
func TestP23_3_ManyLives(t *testing.T) {
	met := map[string]int{}
	for seed := range int64(1500) {
		x := begun(t, seed, met)
		for act := range 40 {
			switch x.chance.Intn(8) {
			case 0, 1:
				x.follows(x.targets())
			case 2:
				x.comesFirst()
			case 3:
				x.asks(x.targets())
			default:
				x.turns()
			}
			if t.Failed() {
				t.Fatalf("life %d, act %d", seed, act)
			}
		}
	}
	for what, least := range map[string]int{"more would than are stale": 500, "fewer were run": 50, "the first one fails": 500, "build 0": 2000, "build 6": 500, "build 13": 500, "one 0": 2000, "one 6": 500, "one 13": 500} {
		if met[what] < least {
			t.Errorf("%s was met %d times alone", what, met[what])
		}
	}
}

// TestP23_3_WhatIsNotBelow: of all files, each in its turn, what does not stand below a file that was turned would not be run.
func TestP23_3_WhatIsNotBelow(t *testing.T) {
	for seed := range int64(300) {
		x := begun(t, seed, map[string]int{})
		if _, e := engine.Build(x.d, nil); e != api.OK {
			continue
		}
		for _, file := range append(sources(), outputs()...) {
			if _, e := x.d.Stat(file); e != api.OK {
				continue
			}
			x.would(nil)
			must(t, x.d.Append(file, nil))
			j, _ := x.asks(nil)
			would, e := tools.Would(x.d, nil)
			must(t, e)
			for _, n := range j.plan {
				edge := j.g.Edge(n)
				touched := slices.Contains(edge.Outs, file) || x.hangsOn(j.g, n, file)
				if !touched && slices.Contains(would, edge.Outs[0]) {
					t.Errorf("seed %d: %s would be run for %s", seed, edge.Outs[0], file)
				}
			}
			if _, e := engine.Build(x.d, nil); e != api.OK {
				t.Fatalf("seed %d, %s: Build: %d", seed, file, e)
			}
		}
	}
}

// hangsOn: does an edge need a file, or find it, or does one above it, or does one above it make it?
func (x *life) hangsOn(g *graph.Graph, n int, file string) bool {
	b, e := db.Open(x.d)
	must(x.t, e)
	hangs := func(n int) bool {
		edge := g.Edge(n)
		entry, _ := b.Look(edge.Outs[0])
		return slices.Contains(slices.Concat(edge.Outs, edge.Ins, edge.Implicit, edge.Order, entry.Deps), file)
	}
	above := g.Above(n)
	return hangs(n) || slices.ContainsFunc(above, func(out string) bool {
		m, _ := g.Maker(out)
		return hangs(m)
	})
}

// queried is what Query must tell, by a manifest's edges alone.
func queried(edges []manifest.Edge, name string) (tools.Info, bool) {
	info, known := tools.Info{Maker: -1}, false
	for n, edge := range edges {
		needs := slices.Concat(edge.Ins, edge.Implicit, edge.Order)
		if slices.Contains(edge.Outs, name) {
			info.Maker, info.Needs, known = n, needs, true
		}
		if slices.Contains(needs, name) {
			known = true
			if len(edge.Outs) > 0 {
				info.Users = append(info.Users, edge.Outs[0])
			}
		}
	}
	if !known {
		return tools.Info{}, false
	}
	return info, true
}

// anyEdges are edges as no manifest that is read may have them, too.
func anyEdges(chance *rand.Rand) []manifest.Edge {
	some := func(of []string, most int) []string {
		var l []string
		for range chance.Intn(most + 1) {
			l = append(l, pick(chance, of...))
		}
		return l
	}
	var edges []manifest.Edge
	outs := names("a", "b", "c", "d", "", "f f", "/g")
	chance.Shuffle(len(outs), func(i, j int) { outs[i], outs[j] = outs[j], outs[i] })
	known := names("s", "t", "../u")
	for range chance.Intn(6) {
		n := min(len(outs), chance.Intn(3))
		edges = append(edges, manifest.Edge{Outs: outs[:n], Ins: some(known, 3), Implicit: some(known, 1), Order: some(known, 2), Command: fmt.Sprint(chance.Intn(4))})
		known, outs = append(known, outs[:n]...), outs[n:]
	}
	chance.Shuffle(len(edges), func(i, j int) { edges[i], edges[j] = edges[j], edges[i] })
	return edges
}

// TestP23_1_ManyGraphs: of each file, and of others, what the edges tell; of each target the commands of its plan.
func TestP23_1_ManyGraphs(t *testing.T) {
	for seed := range int64(5000) {
		chance := rand.New(rand.NewSource(seed))
		edges := anyEdges(chance)
		g := of(t, edges)
		all := names("a", "b", "c", "d", "", "f f", "/g", "s", "t", "../u", "u", "zz")
		for _, name := range all {
			want, known := queried(edges, name)
			if got, ok := tools.Query(g, name); ok != known || !sameInfo(got, want) {
				t.Fatalf("seed %d: Query(%q) = %v, %t, want %v, %t", seed, name, got, ok, want, known)
			}
		}
		for range 5 {
			var targets []string
			for range chance.Intn(3) {
				targets = append(targets, pick(chance, all...))
			}
			own := targets
			if len(own) == 0 {
				own = g.Targets()
			}
			plan, wrong := g.Plan(own)
			var want []string
			for _, n := range plan {
				want = append(want, edges[n].Command)
			}
			if got, e := tools.Commands(g, targets); e != wrong || !slices.Equal(got, want) {
				t.Fatalf("seed %d: Commands(%q) = %q, %d, want %q, %d", seed, targets, got, e, want, wrong)
			}
		}
	}
}

// TestP23_2_SameEachTime: the same is told each time.
func TestP23_2_SameEachTime(t *testing.T) {
	x := planted(t, rules+"build c b a: put || z y\nbuild y: put\nbuild z: put\nbuild x: cat a y\nbuild w: cat a z\n")
	for range 200 {
		x.would(nil, "y", "z", "c", "x", "w")
		g := read(t, rules+"build w: cat a\nbuild v: cat a\nbuild u: rev a\nbuild a: put\n")
		knows(t, g, "a", tools.Info{Maker: 3, Users: names("w", "v", "u")})
	}
}
