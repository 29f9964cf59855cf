package stale_test

import (
	"bytes"
	"fmt"
	"math/rand"
	"slices"
	"strconv"
	"strings"
	"testing"

	"bellows/api"
	"bellows/cook"
	"bellows/db"
	"bellows/depfile"
	"bellows/disk"
	"bellows/manifest"
	"bellows/runs"
	"bellows/scratch"
	"bellows/stale"
)

// model tells of edges by the words alone: edge is held against edge.
type model struct {
	edges []manifest.Edge
	below [][]bool // does the one edge stand below the other one?
}

func modelOf(edges []manifest.Edge) model {
	o := model{edges: edges}
	for _, a := range edges {
		var row []bool
		for _, b := range edges {
			makes := func(need string) bool { return slices.Contains(b.Outs, need) }
			row = append(row, slices.ContainsFunc(slices.Concat(a.Ins, a.Implicit, a.Order), makes))
		}
		o.below = append(o.below, row)
	}
	for over := range edges {
		for a := range edges {
			for b := range edges {
				o.below[a][b] = o.below[a][b] || o.below[a][over] && o.below[over][b]
			}
		}
	}
	return o
}

// may: may a file of that name be there for the edge n?
func (o model) may(n int, name string) bool {
	maker := slices.IndexFunc(o.edges, func(e manifest.Edge) bool { return slices.Contains(e.Outs, name) })
	if maker < 0 {
		return !slices.Contains(ownFiles, name)
	}
	return o.below[n][maker]
}

// there: is the file there, with that time?
func there(d *disk.Disk, name string, time int) bool {
	s, e := d.Stat(name)
	return e == api.OK && s.Time == time
}

// why an edge is stale.
func (o model) why(d *disk.Disk, b *db.DB, n int) stale.Why {
	if n < 0 || n >= len(o.edges) {
		return stale.Form
	}
	edge := o.edges[n]
	outs, deps, e := cook.Outputs(edge.Command)
	if e != api.OK || strings.Join(outs, " ") != strings.Join(edge.Outs, " ") || deps != edge.Depfile {
		return stale.Form
	}
	for _, out := range edge.Outs {
		entry, known := b.Look(out)
		switch {
		case !known:
			return stale.Unknown
		case !there(d, out, entry.Run.Time):
			return stale.Gone
		case entry.Run.Command != edge.Command:
			return stale.Command
		}
		declared := append(slices.Clone(edge.Ins), edge.Implicit...)
		if len(declared) != len(entry.Run.Ins) {
			return stale.Inputs
		}
		for i, in := range entry.Run.Ins {
			if in.Name != declared[i] || !there(d, in.Name, in.Time) {
				return stale.Inputs
			}
		}
		for i, name := range entry.Deps {
			if !o.may(n, name) || !there(d, name, entry.Run.Found[i]) {
				return stale.Found
			}
		}
	}
	return stale.Fresh
}

// pick is one of these.
func pick(chance *rand.Rand, of ...string) string { return of[chance.Intn(len(of))] }

// rare is true once in so many times.
func rare(chance *rand.Rand, in int) bool { return chance.Intn(in) == 0 }

// anyEdges stand in any order. Now and then, once in as many times as far tells, a command is wrong.
func anyEdges(chance *rand.Rand, far int) []manifest.Edge {
	var edges []manifest.Edge
	known := names("s0", "s1", "s2", "s3")
	for n := range 1 + chance.Intn(5) {
		var e manifest.Edge
		for _, row := range []*[]string{&e.Ins, &e.Implicit, &e.Order} {
			for range chance.Intn(3) {
				*row = append(*row, pick(chance, known...))
			}
		}
		for i := range 1 + chance.Intn(3) {
			e.Outs = append(e.Outs, "o"+strconv.Itoa(3*n+i))
		}
		e.Command, e.Depfile = "inc x > "+strings.Join(e.Outs, " ")+" : o.d", "o.d"
		if rare(chance, far) {
			e.Command = pick(chance, "", "inc x > o0 : o.d", "put x", strings.Replace(e.Command, "inc", "rev", 1))
		}
		if rare(chance, far) {
			e.Depfile = pick(chance, "", "o")
		}
		edges, known = append(edges, e), append(known, e.Outs...)
	}
	chance.Shuffle(len(edges), func(i, j int) { edges[i], edges[j] = edges[j], edges[i] })
	return edges
}

// anyRun is put of one of an edge's outputs, or none is. Now and then something is wrong with it.
func (x *tree) anyRun(chance *rand.Rand, o model, n int, out string, far int) {
	all := append(x.d.Names(), "nowhere")
	var found []string
	for range chance.Intn(4) {
		if name := pick(chance, all...); o.may(n, name) && there(x.d, name, x.time(name)) || rare(chance, 3*far) {
			found = append(found, name)
		}
	}
	r := x.now(n, out, found...)
	off := func() int { return chance.Intn(3) - 1 }
	if rare(chance, far) {
		r.Time += off()
	}
	if rare(chance, far) {
		r.Command += pick(chance, "", " ", "x")
	}
	if i := chance.Intn(len(r.Ins) + 1); i < len(r.Ins) && rare(chance, far/2) {
		r.Ins[i].Time += off()
		r.Ins[chance.Intn(len(r.Ins))].Name = pick(chance, all...)
	}
	if rare(chance, far) {
		r.Ins = append(r.Ins, runs.In{Name: "s0", Time: x.time("s0")})
	}
	if i := chance.Intn(len(found) + 1); i < len(found) && rare(chance, far/2) {
		r.Found[i] += off()
	}
	negative := func(in runs.In) bool { return in.Time < 0 }
	if rare(chance, far) || r.Time < 0 || slices.ContainsFunc(r.Ins, negative) || slices.Min(append(r.Found, 0)) < 0 {
		return
	}
	must(x.t, x.b.Put(r, found))
}

func TestP17_1_ManyTrees(t *testing.T) {
	met := map[stale.Why]int{}
	for seed := range int64(6000) {
		chance := rand.New(rand.NewSource(seed))
		far := 8 + chance.Intn(60)
		edges := anyEdges(chance, far)
		x, o := planted(t, edges...), modelOf(edges)
		x.write("s0", "s1", "s2", "s3", "free", "build.ninja", "o.d")
		for _, out := range x.g.Outs() {
			x.write(out)
		}
		for _, name := range x.d.Names() {
			if rare(chance, 10*far) && !slices.Contains(ownFiles, name) {
				must(t, x.d.Remove(name))
			}
		}
		for n, edge := range edges {
			for _, out := range edge.Outs {
				x.anyRun(chance, o, n, out, far)
			}
		}
		for n := -1; n <= len(edges); n++ {
			want := o.why(x.d, x.b, n)
			x.looks(n, want)
			met[want]++
		}
		if t.Failed() {
			t.Fatalf("tree %d", seed)
		}
	}
	for why := stale.Fresh; why <= stale.Found; why++ {
		if met[why] < 400 {
			t.Errorf("%d was met %d times alone", why, met[why])
		}
	}
}

// kitchen is edges whose commands are done: outputs above others, two of one edge, order-only needs, a command that may leave its output as it is, and some that find files.
func kitchen() []manifest.Edge {
	return []manifest.Edge{
		{Outs: names("top"), Ins: names("mid"), Implicit: names("b"), Order: names("w"), Command: "rev mid > top"},
		{Outs: names("mid"), Ins: names("one", "two"), Command: "once sum one two > mid"},
		{Outs: names("one", "two"), Ins: names("i"), Order: names("gen"), Command: "inc i > one two : one.d", Depfile: "one.d"},
		{Outs: names("gen"), Ins: names("a"), Command: "once cat a a > gen"},
		{Outs: names("alone"), Command: "put 1 2 > alone"},
		{Outs: names("other"), Ins: names("k"), Implicit: names("b"), Command: "inc k > other : other.d", Depfile: "other.d"},
	}
}

// turned are other edges for the same outputs, and one that makes what was a source; whoever finds that may not, unless it stands below.
func turned() []manifest.Edge {
	edges := kitchen()
	edges[0].Implicit, edges[0].Command = names("b", "a"), "cat mid a > top"
	edges[1].Command = "sum one two > mid"
	edges[3].Ins, edges[3].Command = names("b"), "once cat b b > gen"
	edges[5].Order = names("h")
	return append(edges, manifest.Edge{Outs: names("h"), Ins: names("b"), Command: "cat b > h"})
}

// whole are those, but all that find what is made stand below it.
func whole() []manifest.Edge {
	edges := turned()
	edges[2].Order = names("gen", "h")
	return edges
}

// texts are what sources may have.
func texts(name string) []string {
	switch name {
	case "i":
		return names("#include gen\n#include h\nrest", "#include h\n", "none\n", "#include gen\n#include h2\n", "#include lost\n")
	case "k":
		return names("#include h\n", "#include h2\n#include h2\nk", "#include free\n", "#include gen\n")
	case "h":
		return names("h\n", "#include h2\n", "#include free\nh")
	}
	return names(name, name+"\n", "", "12")
}

func sources() []string { return names("a", "b", "w", "i", "k", "h", "h2", "free") }

// dish is what an edge's command makes of the files that are there, and what it found; false, if it can't.
func (x *tree) dish(n int) (cook.Dish, []string, bool) {
	edge := x.g.Edge(n)
	var files []cook.File
	for _, name := range x.d.Names() {
		if scratch.There(x.g, n, name) {
			b, _ := x.d.Read(name)
			files = append(files, cook.File{Name: name, B: b})
		}
	}
	d, e := cook.Cook(edge.Command, slices.Concat(edge.Ins, edge.Implicit), files)
	if e != api.OK || !scratch.Fits(edge, d) {
		return cook.Dish{}, nil, false
	}
	if d.Depfile == "" {
		return d, nil, true
	}
	_, found, e := depfile.Parse(d.Deps)
	return d, found, e == api.OK
}

// run does an edge, writes its outputs, and puts a run of each; false, if something of it can't be done.
func (x *tree) run(n int) bool {
	d, found, ok := x.dish(n)
	if !ok {
		return false
	}
	for _, f := range d.Outs {
		was, e := x.d.Read(f.Name)
		if d.Once && e == api.OK && bytes.Equal(was, f.B) {
			continue
		}
		if x.d.Write(f.Name, f.B) != api.OK {
			return false
		}
	}
	for _, f := range d.Outs {
		r := x.now(n, f.Name, found...)
		if x.b.Put(r, found) != api.OK {
			return false
		}
	}
	return true
}

// build runs all edges that are stale, each behind those below which it stands; false, if one can't be run.
func (x *tree) build() bool {
	plan, _ := x.g.Plan(x.g.Outs())
	for _, n := range plan {
		if stale.Look(x.d, x.b, x.g, n) != stale.Fresh && !x.run(n) {
			return false
		}
	}
	return true
}

// built is a tree in which all was run, and is sure.
func built(t *testing.T, edges []manifest.Edge) *tree {
	t.Helper()
	x := planted(t, edges...)
	for _, name := range sources() {
		must(t, x.d.Write(name, []byte(texts(name)[0])))
	}
	x.write("spare", "build.ninja", "one.d")
	if !x.build() {
		t.Fatal("it can't be built")
	}
	x.sure()
	return x
}

// madeOf are an edge's outputs, and the files that it was made of.
func (x *tree) madeOf(n int) []string {
	edge := x.g.Edge(n)
	_, found, _ := x.dish(n)
	return slices.Concat(edge.Outs, edge.Ins, edge.Implicit, found)
}

// kitchens are those in which all can be made.
func kitchens() map[string][]manifest.Edge {
	return map[string][]manifest.Edge{"kitchen": kitchen(), "whole": whole()}
}

func TestP17_2_WhateverIsTurnedMakesStale(t *testing.T) {
	for which, edges := range kitchens() {
		for _, name := range built(t, edges).d.Names() {
			if name == api.RunsLog || name == api.NamesLog {
				continue
			}
			for what, do := range turnings() {
				x := built(t, edges)
				of := make([]bool, len(edges))
				for n := range edges {
					of[n] = slices.Contains(x.madeOf(n), name)
				}
				must(t, do(x.d, name))
				for range 2 {
					for n := range edges {
						if fresh := stale.Look(x.d, x.b, x.g, n) == stale.Fresh; fresh == of[n] {
							t.Errorf("%s: the edge %d is fresh: %t", which, n, fresh)
						}
					}
					x.reopen()
				}
				if t.Failed() {
					t.Fatalf("%s, %s", name, what)
				}
			}
		}
	}
}

func TestP17_2_WhatIsNotTurnedStays(t *testing.T) {
	for which, edges := range kitchens() {
		for _, name := range built(t, edges).d.Names() {
			for what, do := range leavings() {
				x := built(t, edges)
				must(t, do(x.d, name))
				for n := range edges {
					x.looks(n, stale.Fresh)
				}
				if t.Failed() {
					t.Fatalf("%s: %s, %s", which, name, what)
				}
			}
		}
	}
}

func TestP17_2_ByAnotherEdge(t *testing.T) {
	x := built(t, kitchen())
	stales := func(want ...int) {
		t.Helper()
		for n := range kitchen() {
			if fresh := stale.Look(x.d, x.b, x.g, n) == stale.Fresh; fresh == slices.Contains(want, n) {
				t.Errorf("the edge %d is fresh: %t", n, fresh)
			}
		}
	}
	stales()
	// Its output stays as it is, so nothing else comes of it.
	must(t, x.d.Append("a", nil))
	stales(3)
	x.run(3)
	stales()
	// It is turned, so what found it is stale; and so on, until an output stays as it is.
	must(t, x.d.Append("a", []byte("x")))
	stales(3)
	x.run(3)
	stales(2)
	x.run(2)
	stales(1)
	x.run(1)
	stales(0)
	x.run(0)
	stales()
	must(t, x.d.Append("h2", nil), x.d.Remove("w"))
	stales()
	must(t, x.d.Write("i", []byte("#include h2\n")))
	x.build()
	must(t, x.d.Append("h", nil))
	stales(5)
	must(t, x.d.Append("h2", nil))
	stales(2, 5)
	// Both outputs are turned by their edge, but have the same bytes, so that what is made of them does.
	x.run(2)
	stales(1, 5)
	x.run(1)
	stales(5)
}

// life is a tree with what was there when each edge was run last.
type life struct {
	*tree
	edges []manifest.Edge
	times []map[string]int // of each edge; nil, where what is known of it may be lost, or told of another manifest
}

// forget is done where a crash, a compacting or another manifest may have turned what is known.
func (x *life) forget() { x.times = make([]map[string]int, len(x.edges)) }

// turn does something with a source, or any other file.
func (x *life) turn(chance *rand.Rand) {
	name := pick(chance, sources()...)
	if rare(chance, 4) {
		name = pick(chance, append(x.g.Outs(), "new", "one.d")...)
	}
	text := pick(chance, texts(name)...)
	switch chance.Intn(8) {
	case 0:
		x.d.Append(name, []byte(text))
	case 1:
		x.d.Cut(name, chance.Intn(3))
	case 2:
		x.d.Remove(name)
	case 3:
		x.d.Rename(name, pick(chance, "h", "free", "new", "gen", name))
	case 4:
		x.d.Rename("new", name)
	default:
		x.d.Write(name, []byte(text))
	}
}

// runOne runs an edge, and keeps the times of what it is made of.
func (x *life) runOne(n int) {
	x.times[n] = nil
	if !x.run(n) {
		return
	}
	now := map[string]int{}
	for _, name := range x.madeOf(n) {
		now[name] = x.time(name)
	}
	x.times[n] = now
}

// crash restarts the disk with a part of what was not sure.
func (x *life) crash(chance *rand.Rand) {
	k := disk.Keep{Dir: chance.Intn(12)}
	for range chance.Intn(4) {
		k.Tails = append(k.Tails, chance.Intn(3)*chance.Intn(200))
	}
	x.d.Restart(k)
	x.reopen()
	x.forget()
}

// act does something, and tells what.
func (x *life) act(chance *rand.Rand) string {
	switch chance.Intn(20) {
	case 0, 1, 2, 3, 4, 5:
		x.turn(chance)
		return "turn"
	case 6, 7, 8, 9, 10:
		x.runOne(chance.Intn(len(x.edges)))
		return "run"
	case 11, 12:
		plan, _ := x.g.Plan(x.g.Outs())
		for _, n := range plan {
			if stale.Look(x.d, x.b, x.g, n) != stale.Fresh {
				x.runOne(n)
			}
		}
		return "build"
	case 13:
		x.b.Sync()
		x.d.Sync(pick(chance, append(sources(), x.g.Outs()...)...))
		return "sync"
	case 14:
		x.b.Compact(x.g.Outs()[chance.Intn(3):])
		x.forget()
		return "compact"
	case 15:
		x.edges = [][]manifest.Edge{kitchen(), turned(), whole()}[chance.Intn(3)]
		x.plan(x.edges...)
		x.forget()
		return "plan"
	case 16:
		x.d.Arm(chance.Intn(15))
		return "arm"
	case 17:
		x.crash(chance)
		return "crash"
	}
	return "nothing"
}

// check looks at an edge, and tells what of it was seen.
func (x *life) check(n int) string {
	x.t.Helper()
	fresh := stale.Look(x.d, x.b, x.g, n) == stale.Fresh
	if fresh {
		d, _, ok := x.dish(n)
		if !ok {
			x.t.Errorf("the edge %d is fresh, but can't be run", n)
		}
		for _, f := range d.Outs {
			if b, e := x.d.Read(f.Name); e != api.OK || !bytes.Equal(b, f.B) {
				x.t.Errorf("the edge %d is fresh, but %s is %q, %d, not %q", n, f.Name, b, e, f.B)
			}
		}
	}
	if x.times[n] == nil {
		return fmt.Sprint("fresh, without times: ", fresh)
	}
	same := true
	for name, time := range x.times[n] {
		same = same && there(x.d, name, time)
	}
	if fresh != same {
		x.t.Errorf("the edge %d is fresh: %t, but what it was made of is as it was: %t", n, fresh, same)
	}
	return fmt.Sprint("fresh: ", fresh)
}

func TestP17_2_ManyLives(t *testing.T) {
	met := map[string]int{}
	for seed := range int64(1000) {
		chance := rand.New(rand.NewSource(seed))
		x := &life{tree: built(t, kitchen()), edges: kitchen()}
		x.forget()
		for n := range x.edges {
			x.runOne(n)
		}
		for act := range 40 {
			did := x.act(chance)
			if x.d.Down() {
				x.crash(chance)
			}
			for n := range x.edges {
				met[x.check(n)]++
			}
			met[did]++
			if t.Failed() {
				t.Fatalf("life %d, act %d, %s", seed, act, did)
			}
		}
	}
	for _, what := range names("fresh: true", "fresh: false", "fresh, without times: true", "fresh, without times: false", "turn", "run", "build", "sync", "compact", "plan", "arm", "crash") {
		if met[what] < 1000 {
			t.Errorf("%s was met %d times alone", what, met[what])
		}
	}
}

// rebuilt is one life: it is built, some of it is turned, and it is built again. It goes on when the disk is down, and nothing comes of that.
func rebuilt(x *tree) {
	x.build()
	x.b.Sync()
	x.d.Write("a", []byte("34"))
	x.d.Append("h", []byte("#include h2\n"))
	x.build()
	x.d.Remove("gen")
	x.d.Write("i", []byte("#include h\n"))
	x.build()
	x.b.Sync()
}

func TestP17_2_OneLifeThroughAllCrashes(t *testing.T) {
	begun := func() *tree {
		x := planted(t, kitchen()...)
		for _, name := range sources() {
			must(t, x.d.Write(name, []byte(texts(name)[0])))
		}
		x.sure()
		return x
	}
	x := begun()
	from := x.d.Deeds()
	rebuilt(x)
	lived, fresh := x.d.Deeds()-from, 0
	for crash := range lived + 1 {
		for _, dir := range []int{0, 1, 2, 5, 1000} {
			for _, tails := range [][]int{nil, {1000}, {0, 1000}, {1000, 0}, {60, 0, 5}, {300, 1000, 1}, {1000, 120, 0, 2}} {
				x := begun()
				x.d.Arm(crash)
				rebuilt(x)
				x.d.Restart(disk.Keep{Dir: dir, Tails: tails})
				x.reopen()
				l := &life{tree: x, edges: kitchen()}
				l.forget()
				for n := range l.edges {
					if l.check(n) == "fresh, without times: true" {
						fresh++
					}
				}
				if t.Failed() {
					t.Fatalf("crash at %d, %d changes, tails %v", crash, dir, tails)
				}
			}
		}
	}
	if fresh < 500 {
		t.Errorf("of %d deeds %d edges alone were fresh", lived, fresh)
	}
}
