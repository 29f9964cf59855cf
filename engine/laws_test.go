package engine_test

import (
	"maps"
	"math/rand"
	"slices"
	"strconv"
	"strings"
	"testing"

	"bellows/api"
	"bellows/cook"
	"bellows/db"
	"bellows/depfile"
	"bellows/disk"
	"bellows/engine"
	"bellows/graph"
	"bellows/manifest"
	"bellows/print"
	"bellows/runs"
	"bellows/scratch"
)

// state is what there is ahead of a build, or behind it.
type state struct {
	files   map[string]content
	entries map[string]db.Entry
	runs    []runs.Run
	frames  int
}

// state opens the database, which is as nothing ahead of a build that does it, too.
func (x *tree) state() state {
	x.t.Helper()
	b := x.known()
	s := state{files: x.files(), entries: map[string]db.Entry{}, runs: b.Runs(), frames: x.frames()}
	for _, out := range b.Outs() {
		if entry, ok := b.Look(out); ok {
			s.entries[out] = entry
		}
	}
	return s
}

// model tells by the words alone what a build comes to, of what there was ahead of it and behind it: all that an edge is made of is at its turn as it is behind the build.
type model struct {
	*tree
	g        *graph.Graph
	was, now state
	ran      []string
	turned   map[string]struct{} // outputs that it may have turned
}

// loaded is the graph of the manifest that is there.
func (x *tree) loaded() (manifest.Manifest, *graph.Graph, api.Errno) {
	b, e := x.d.Read(api.Manifest)
	if e != api.OK {
		return manifest.Manifest{}, nil, e
	}
	m, _, e := manifest.Parse(string(b))
	if e != api.OK {
		return m, nil, e
	}
	g, e := graph.New(m)
	return m, g, e
}

// at is a file at the turn of an edge that may have it.
func (o *model) at(name string) (content, bool) {
	if _, made := o.g.Maker(name); made {
		c, ok := o.now.files[name]
		return c, ok
	}
	c, ok := o.was.files[name]
	return c, ok
}

// told: are these the files, and their times?
func (o *model) told(ins []runs.In, files []string) bool {
	return slices.EqualFunc(ins, files, func(in runs.In, name string) bool {
		c, ok := o.at(name)
		return ok && in.Name == name && in.Time == c.time
	})
}

// founds are the names of an entry, with what is told of them.
func founds(entry db.Entry) []runs.In {
	var ins []runs.In
	for i, name := range entry.Deps {
		ins = append(ins, runs.In{Name: name, Time: entry.Run.Found[i]})
	}
	return ins
}

// matches: does an entry tell of an output with this content, made now?
func (o *model) matches(entry db.Entry, out content, n int, found []string) bool {
	edge := o.g.Edge(n)
	may := func(name string) bool { return scratch.There(o.g, n, name) }
	return entry.Run.Time == out.time && entry.Run.Command == edge.Command && o.told(entry.Run.Ins, slices.Concat(edge.Ins, edge.Implicit)) &&
		o.told(founds(entry), found) && !slices.ContainsFunc(found, func(name string) bool { return !may(name) })
}

func (o *model) fresh(n int) bool {
	edge := o.g.Edge(n)
	outs, deps, e := cook.Outputs(edge.Command)
	if e != api.OK || !slices.Equal(outs, edge.Outs) || deps != edge.Depfile {
		return false
	}
	for _, out := range outs {
		entry, known := o.was.entries[out]
		file, there := o.was.files[out]
		if !known || !there || !o.matches(entry, file, n, entry.Deps) {
			return false
		}
	}
	return true
}

// dish is what an edge's command makes, and found.
func (o *model) dish(n int) (cook.Dish, []string, bool) {
	edge := o.g.Edge(n)
	var files []cook.File
	for name := range o.now.files {
		if file, ok := o.at(name); ok && scratch.There(o.g, n, name) {
			files = append(files, cook.File{Name: name, B: []byte(file.text)})
		}
	}
	d, e := cook.Cook(edge.Command, slices.Concat(edge.Ins, edge.Implicit), files)
	var outs []string
	for _, f := range d.Outs {
		outs = append(outs, f.Name)
	}
	if e != api.OK || !slices.Equal(outs, edge.Outs) || d.Depfile != edge.Depfile {
		return d, nil, false
	}
	if d.Depfile == "" {
		return d, nil, true
	}
	_, found, e := depfile.Parse(d.Deps)
	return d, found, e == api.OK
}

// edge asks for what an edge of the plan comes to, and tells it.
func (o *model) edge(n int) api.Errno {
	o.t.Helper()
	edge := o.g.Edge(n)
	for _, need := range slices.Concat(edge.Ins, edge.Implicit, edge.Order) {
		_, made := o.g.Maker(need)
		if _, there := o.was.files[need]; !made && !there {
			return api.ErrMissing
		}
	}
	if o.fresh(n) {
		return api.OK
	}
	for _, out := range edge.Outs {
		o.turned[out] = struct{}{}
	}
	d, found, ok := o.dish(n)
	if !ok {
		o.failed(n)
		return api.ErrCommand
	}
	o.ran = append(o.ran, edge.Outs[0])
	for _, f := range d.Outs {
		was, there := o.was.files[f.Name]
		now := o.now.files[f.Name]
		stays := there && d.Once && was.text == string(f.B)
		if now.text != string(f.B) || (now.time == was.time) != stays {
			o.t.Errorf("%s was %v, and is %v, of %q", f.Name, was, now, edge.Command)
		}
		if entry := o.now.entries[f.Name]; !o.matches(entry, now, n, found) {
			o.t.Errorf("of %s %v is known", f.Name, entry)
		}
	}
	return api.OK
}

// failed asks for what is left of an edge that can't be run.
func (o *model) failed(n int) {
	o.t.Helper()
	outs := o.g.Edge(n).Outs
	others := func(r runs.Run) bool { return !slices.Contains(outs, r.Out) }
	for _, out := range outs {
		if _, there := o.now.files[out]; there {
			o.t.Errorf("%s is there", out)
		}
	}
	if !slices.EqualFunc(slices.DeleteFunc(o.was.runs, others), slices.DeleteFunc(o.now.runs, others), runs.Same) {
		o.t.Errorf("something was put of %q", outs)
	}
}

// whole asks for what a build comes to, edge by edge, and tells its error.
func (o *model) whole(targets []string) api.Errno {
	o.t.Helper()
	if len(targets) == 0 {
		targets = o.g.Targets()
	}
	plan, e := o.g.Plan(targets)
	if e != api.OK {
		return e
	}
	for _, target := range targets {
		_, made := o.g.Maker(target)
		if _, there := o.was.files[target]; !made && !there {
			return api.ErrMissing
		}
	}
	for _, n := range plan {
		if e := o.edge(n); e != api.OK {
			return e
		}
	}
	return api.OK
}

// rest asks for all that the build has not turned to be as it was.
func (o *model) rest() {
	o.t.Helper()
	for _, name := range names(api.RunsLog, api.NamesLog) {
		delete(o.was.files, name)
		delete(o.now.files, name)
	}
	for out := range o.turned {
		delete(o.was.files, out)
		delete(o.now.files, out)
		delete(o.was.entries, out)
		delete(o.now.entries, out)
	}
	if !maps.Equal(o.was.files, o.now.files) {
		o.t.Errorf("there was %v, and is %v", o.was.files, o.now.files)
	}
	if !maps.EqualFunc(o.was.entries, o.now.entries, func(a, b db.Entry) bool { return runs.Same(a.Run, b.Run) && slices.Equal(a.Deps, b.Deps) }) {
		o.t.Errorf("%v was known, and %v is", o.was.entries, o.now.entries)
	}
}

// build builds, and asks for all that a build promises, where the disk has room, and stays up.
func (x *tree) build(targets []string) (engine.Report, api.Errno) {
	x.t.Helper()
	m, g, want := x.loaded()
	o := &model{tree: x, g: g, was: x.state(), turned: map[string]struct{}{}}
	r, e := engine.Build(x.d, targets)
	o.now = x.state()
	frames := o.now.frames - o.was.frames
	files := maps.Clone(o.now.files)
	if want == api.OK {
		want = o.whole(targets)
	}
	if e != want || !slices.Equal(r.Ran, o.ran) || r.Records != frames {
		x.t.Errorf("Build(%q) = %v, %d, want %q, %d records, %d", targets, r, e, o.ran, frames, want)
	}
	o.rest()
	if e == api.OK {
		x.evaluated(m, targets, files)
		x.again(targets)
	}
	return r, e
}

// evaluated asks for the bytes that are made from scratch.
func (x *tree) evaluated(m manifest.Manifest, targets []string, files map[string]content) {
	x.t.Helper()
	var sources []cook.File
	for name, c := range files {
		sources = append(sources, cook.File{Name: name, B: []byte(c.text)})
	}
	made, e := scratch.Eval(m, sources, targets)
	if e != api.OK {
		x.t.Errorf("from scratch: %d", e)
	}
	for _, f := range made {
		if got, there := files[f.Name]; !there || got.text != string(f.B) {
			x.t.Errorf("%s is %v, want %q", f.Name, got, f.B)
		}
	}
}

// again asks for a build that does nothing.
func (x *tree) again(targets []string) {
	x.t.Helper()
	was := x.files()
	x.builds(targets)
	x.same(was)
}

// pick is one of these.
func pick(chance *rand.Rand, of ...string) string { return of[chance.Intn(len(of))] }

// rare is true once in so many times.
func rare(chance *rand.Rand, in int) bool { return chance.Intn(in) == 0 }

func sources() []string { return names("s0", "s1", "s2", "s3", "s4", "free") }

func outputs() []string { return names("o0", "o1", "o2", "o3", "o4", "o5", "o6") }

// anyText is what a file may have: mostly it can be put in another one.
func anyText(chance *rand.Rand, name string) string {
	switch {
	case name == "s3":
		return pick(chance, "#include s0\n", "#include s0\n#include free\n", "#include o0\n", "3\n#include o1\n", "#include s4\nrest", "")
	case name == "s4":
		return pick(chance, "#include s1\n", "4", "", "#include o0\n", "#include free\n")
	case rare(chance, 30):
		return pick(chance, "#include none\n", "#include build.ninja\n", "#include s3\n", "#include ")
	}
	return pick(chance, "", "x", name, name+"\n", "12\n34")
}

// anyEdge makes some outputs of some files. Now and then, once in as many times as far tells, something is wrong with it.
func anyEdge(chance *rand.Rand, outs, known []string, far int) manifest.Edge {
	e := manifest.Edge{Outs: outs}
	for _, row := range []*[]string{&e.Ins, &e.Implicit, &e.Order} {
		for range chance.Intn(3) {
			*row = append(*row, pick(chance, known...))
		}
	}
	declared := slices.Concat(e.Ins, e.Implicit)
	verb, args, depfile := pick(chance, "cat", "put", "cat", "inc", "inc", "inc"), declared, ""
	if len(declared) > 0 && rare(chance, 3) {
		verb, args = pick(chance, "rev", "sum"), declared[:1]
	}
	if verb == "inc" {
		e.Ins, e.Depfile, depfile = append(e.Ins, pick(chance, "s3", "s4", pick(chance, known...))), "d", " : d"
		args = e.Ins[len(e.Ins)-1:]
	}
	if rare(chance, far) {
		args = append(slices.Clone(args), pick(chance, "free", "o0", "none"))
	}
	if rare(chance, far) {
		verb = "fail"
	}
	e.Command = pick(chance, "", "once ") + strings.Join(slices.Concat([]string{verb}, args, []string{">"}, outs), " ") + depfile
	if rare(chance, 2*far) {
		e.Command = pick(chance, "cat", e.Command+" x", "put > o0")
	}
	if rare(chance, 2*far) {
		e.Depfile = pick(chance, "", "d", "e")
	}
	return e
}

// anyManifest makes some of the outputs, and now and then a source.
func anyManifest(chance *rand.Rand, far int) string {
	var m manifest.Manifest
	known := sources()
	outs := outputs()
	if rare(chance, 4) {
		outs = append(outs, "free")
	}
	for len(outs) > 0 {
		n := min(len(outs), 1+chance.Intn(6)/4)
		if !rare(chance, 5) {
			m.Edges = append(m.Edges, anyEdge(chance, outs[:n], known, far))
			known = append(known, outs[:n]...)
		}
		outs = outs[n:]
	}
	for _, e := range m.Edges {
		if rare(chance, 4) {
			m.Defaults = append(m.Defaults, pick(chance, e.Outs...))
		}
	}
	chance.Shuffle(len(m.Edges), func(i, j int) { m.Edges[i], m.Edges[j] = m.Edges[j], m.Edges[i] })
	text, _ := print.Print(m)
	return text
}

// life is a tree, and what happens to it.
type life struct {
	*tree
	chance    *rand.Rand
	manifests []string
	met       map[string]int
}

// begun is a life, with all sources.
func begun(t *testing.T, seed int64, met map[string]int) *life {
	t.Helper()
	chance := rand.New(rand.NewSource(seed))
	d, e := disk.New(api.MaxQuota)
	must(t, e)
	x := &life{tree: &tree{t, d}, chance: chance, met: met}
	far := 10 + chance.Intn(100)
	for range 3 {
		x.manifests = append(x.manifests, anyManifest(chance, far))
	}
	for _, name := range sources() {
		x.write(name, anyText(chance, name))
	}
	x.write("build.ninja", x.manifests[0])
	return x
}

// turn does something with a file.
func (x *life) turn() {
	name := pick(x.chance, sources()...)
	if rare(x.chance, 3) {
		name = pick(x.chance, append(outputs(), "d", "new")...)
	}
	text := []byte(anyText(x.chance, name))
	switch x.chance.Intn(8) {
	case 0:
		x.d.Append(name, text)
	case 1:
		x.d.Cut(name, x.chance.Intn(3))
	case 2:
		x.d.Remove(name)
	case 3:
		x.d.Rename(name, pick(x.chance, "new", "free", "o0", "o1"))
	case 4:
		if b, e := x.d.Read(name); e == api.OK {
			x.d.Write(name, b)
		}
	default:
		x.d.Write(name, text)
	}
}

// targets are some of what may be built, or none.
func (x *life) targets() []string {
	_, g, e := x.loaded()
	may := append(outputs(), "s0", "free")
	if e == api.OK && !rare(x.chance, 8) {
		may = append(g.Outs(), g.Sources()...)
	}
	var all []string
	for range x.chance.Intn(3) * x.chance.Intn(2) {
		all = append(all, pick(x.chance, append(may, "s0")...))
	}
	return all
}

// mend writes the sources that are not there, mostly.
func (x *life) mend() {
	for _, name := range sources() {
		if _, e := x.d.Stat(name); e != api.OK && !rare(x.chance, 10) {
			x.write(name, anyText(x.chance, name))
		}
	}
}

// crash restarts with a part of what was not sure.
func (x *life) crash() {
	k := disk.Keep{Dir: x.chance.Intn(15)}
	for range x.chance.Intn(4) {
		k.Tails = append(k.Tails, x.chance.Intn(3)*x.chance.Intn(200))
	}
	x.d.Restart(k)
}

// act does something, and tells what.
func (x *life) act() string {
	switch x.chance.Intn(20) {
	case 0, 1, 2, 3, 4, 5, 6:
		x.turn()
		return "turn"
	case 7:
		x.write("build.ninja", pick(x.chance, x.manifests...))
		return "manifest"
	case 8:
		_, g, e := x.loaded()
		if e == api.OK {
			x.known().Compact(g.Outs())
		}
		return "compact"
	case 9:
		x.sure()
		return "sure"
	case 10:
		x.crash()
		return "crash"
	case 11:
		x.mend()
		x.turn()
		x.d.Arm(x.chance.Intn(16))
		engine.Build(x.d, x.targets())
		if x.d.Down() {
			x.crash()
			return "crash within a build"
		}
		x.d.Arm(-1)
		return "armed"
	}
	if !rare(x.chance, 4) {
		x.mend()
	}
	r, e := x.build(x.targets())
	if e == api.OK && len(r.Ran) == 0 {
		return "nothing run"
	}
	return "build " + strconv.Itoa(int(e))
}

// TestP18_3_ManyLives: each build comes, edge by edge, to what the words say, whatever happened ahead; one that succeeds leaves what is evaluated, and another one at once does nothing.
func TestP18_3_ManyLives(t *testing.T) {
	met := map[string]int{}
	for seed := range int64(1500) {
		x := begun(t, seed, met)
		for act := range 40 {
			did := x.act()
			met[did]++
			if t.Failed() {
				t.Fatalf("life %d, act %d, %s, of %s", seed, act, did, x.files()["build.ninja"].text)
			}
		}
	}
	for what, least := range map[string]int{"turn": 5000, "manifest": 1000, "compact": 1000, "sure": 1000, "crash": 1000, "crash within a build": 500, "armed": 500, "nothing run": 500, "build 0": 2000, "build 6": 1000, "build 13": 1000} {
		if met[what] < least {
			t.Errorf("%s was met %d times alone", what, met[what])
		}
	}
}

// TestP18_3_NarrowLives: a disk that is short of room lets builds fail, but those that succeed leave what is evaluated, and nobody's files are turned.
func TestP18_3_NarrowLives(t *testing.T) {
	met := map[api.Errno]int{}
	for seed := range int64(800) {
		x := begun(t, seed, nil)
		x.narrow()
		for act := range 30 {
			for range x.chance.Intn(3) {
				x.turn()
			}
			m, g, e := x.loaded()
			if e != api.OK {
				break // it is told of more than one edge that needs itself
			}
			targets, was := x.targets(), x.files()
			r, e := engine.Build(x.d, targets)
			met[e]++
			if e == api.OK {
				x.evaluated(m, targets, x.files())
				x.again(targets)
			} else if !slices.Contains([]api.Errno{api.ErrMissing, api.ErrCommand, api.ErrSpace}, e) {
				t.Errorf("Build(%q) = %v, %d", targets, r, e)
			}
			x.same(was, append(g.Outs(), api.RunsLog, api.NamesLog)...)
			if rare(x.chance, 6) {
				x.d.Remove(pick(x.chance, outputs()...))
				x.crash()
				x.write("build.ninja", "")
				x.write("build.ninja", x.manifests[0])
			}
			if t.Failed() {
				t.Fatalf("life %d, act %d", seed, act)
			}
		}
	}
	for e, least := range map[api.Errno]int{api.OK: 500, api.ErrSpace: 500, api.ErrCommand: 500, api.ErrMissing: 500} {
		if met[e] < least {
			t.Errorf("%d was met %d times alone", e, met[e])
		}
	}
}

// narrow moves a life to a disk of few bytes.
func (x *life) narrow() {
	d, e := disk.New(len(x.manifests[0]) + 200 + x.chance.Intn(1000))
	must(x.t, e)
	for _, name := range x.d.Names() {
		b, _ := x.d.Read(name)
		must(x.t, d.Write(name, b))
	}
	must(x.t, d.SyncDir(), d.Sync("build.ninja"))
	x.d = d
}

// grown is a tree in which all was built, and is sure; then something was turned.
func grown(t *testing.T) *tree {
	t.Helper()
	x := planted(t, rules+"build top: rev mid || w\nbuild mid: keep one two\nbuild one two: inc i | b || gen\nbuild gen: keep a\nbuild z: put\n words = 1\nbuild other: inc k\n", "a", "b", "w", "h")
	x.write("i", "#include gen\n#include h\nrest")
	x.write("k", "#include h\n#include b\n")
	x.builds(nil, "gen", "one", "mid", "top", "z", "other")
	x.sure()
	x.write("h", "H\n")
	must(t, x.d.Append("b", []byte("B\n")), x.d.Remove("w"), x.d.Rename("h", "h2"), x.d.Rename("h2", "h"))
	x.write("w", "")
	x.write("a", "a\n")
	return x
}

// TestP18_3_AllCrashes: whatever a crash within a build leaves, the next one comes to the same as ever.
func TestP18_3_AllCrashes(t *testing.T) {
	x := grown(t)
	from := x.d.Deeds()
	x.builds(nil, "gen", "one", "mid", "top", "other")
	lived := x.d.Deeds() - from
	met := map[int]int{}
	for crash := range lived + 1 {
		for _, dir := range []int{0, 1, 3, 4, 5, 6, 8, 10, 12, 1000} {
			for _, tails := range [][]int{nil, {1000}, {0, 1000}, {1000, 0}, {60, 0, 5}, {300, 1000, 1}, {1000, 120, 0, 2}} {
				x := grown(t)
				x.d.Arm(crash)
				engine.Build(x.d, nil)
				x.d.Restart(disk.Keep{Dir: dir, Tails: tails})
				if _, e := x.d.Stat("w"); e != api.OK {
					x.write("w", "")
				}
				if _, e := x.d.Stat("h"); e != api.OK {
					x.write("h", "")
				}
				r, e := x.build(nil)
				if e != api.OK {
					t.Errorf("%v, %d", r, e)
				}
				met[len(r.Ran)]++
				if t.Failed() {
					t.Fatalf("crash at %d, %d changes, tails %v", crash, dir, tails)
				}
			}
		}
	}
	for ran := range 6 { // one edge is known for sure
		if met[ran] == 0 {
			t.Errorf("never %d edges were run", ran)
		}
	}
}
