package scratch_test

import (
	"math/rand"
	"slices"
	"strconv"
	"strings"
	"testing"

	"bellows/api"
	"bellows/cook"
	"bellows/depfile"
	"bellows/manifest"
	"bellows/scratch"
)

// model tells what a manifest makes by the words alone: edge is held against edge.
type model struct {
	m     manifest.Manifest
	below [][]bool // does the one edge stand below the other one?
}

func needsBy(e manifest.Edge) []string { return slices.Concat(e.Ins, e.Implicit, e.Order) }

func isOwn(name string) bool { return slices.Contains(ownFiles, name) }

func modelOf(m manifest.Manifest) model {
	o := model{m: m}
	for _, a := range m.Edges {
		var row []bool
		for _, b := range m.Edges {
			row = append(row, slices.ContainsFunc(needsBy(a), func(need string) bool { return slices.Contains(b.Outs, need) }))
		}
		o.below = append(o.below, row)
	}
	for over := range m.Edges {
		for a := range m.Edges {
			for b := range m.Edges {
				o.below[a][b] = o.below[a][b] || o.below[a][over] && o.below[over][b]
			}
		}
	}
	return o
}

// maker is the edge that makes a file; -1, if none does.
func (o model) maker(name string) int {
	return slices.IndexFunc(o.m.Edges, func(e manifest.Edge) bool { return slices.Contains(e.Outs, name) })
}

func (o model) isNeeded(name string) bool {
	return slices.ContainsFunc(o.m.Edges, func(e manifest.Edge) bool { return slices.Contains(needsBy(e), name) })
}

// graphFault is what is wrong with the manifest, whatever is asked for.
func (o model) graphFault() api.Errno {
	var outs, all []string
	for _, e := range o.m.Edges {
		outs = append(outs, e.Outs...)
		all = append(append(all, e.Outs...), needsBy(e)...)
	}
	slices.Sort(outs)
	if len(slices.Compact(slices.Clone(outs))) < len(outs) {
		return api.ErrTwice
	}
	for n := range o.m.Edges {
		if o.below[n][n] {
			return api.ErrCycle
		}
	}
	if slices.ContainsFunc(all, isOwn) {
		return api.ErrName
	}
	return api.OK
}

// targets are the graph's own ones.
func (o model) targets() []string {
	if len(o.m.Defaults) > 0 {
		return o.m.Defaults
	}
	var all []string
	for _, e := range o.m.Edges {
		all = append(all, slices.DeleteFunc(slices.Clone(e.Outs), o.isNeeded)...)
	}
	return all
}

// plan tells in which order edges are done: again and again the first one that can be.
func (o model) plan(targets []string) []int {
	among := make([]bool, len(o.m.Edges))
	for _, target := range targets {
		if n := o.maker(target); n >= 0 {
			for b := range among {
				among[b] = among[b] || n == b || o.below[n][b]
			}
		}
	}
	var plan []int
	for n := 0; n < len(among); n++ {
		waits := func(need string) bool { return o.maker(need) >= 0 && !slices.Contains(plan, o.maker(need)) }
		if among[n] && !slices.Contains(plan, n) && !slices.ContainsFunc(needsBy(o.m.Edges[n]), waits) {
			plan, n = append(plan, n), -1
		}
	}
	return plan
}

// may: may a file of that name be there for the edge n?
func (o model) may(n int, name string) bool {
	maker := o.maker(name)
	return maker < 0 && !isOwn(name) || maker >= 0 && n >= 0 && n < len(o.below) && o.below[n][maker]
}

// feast is what is made, and on what it hangs.
type feast struct {
	made         []cook.File
	named, found []string // named are the targets, and the needs of the edges that were done
}

// evaluated is what is made of sources.
func (o model) evaluated(sources []cook.File, targets []string) (feast, api.Errno) {
	if e := o.graphFault(); e != api.OK {
		return feast{}, e
	}
	if len(targets) == 0 {
		targets = o.targets()
	}
	for _, target := range targets {
		if o.maker(target) < 0 && !o.isNeeded(target) {
			return feast{}, api.ErrMissing
		}
	}
	missing := func(name string) bool {
		return o.maker(name) < 0 && !slices.ContainsFunc(sources, func(f cook.File) bool { return f.Name == name })
	}
	if slices.ContainsFunc(targets, missing) {
		return feast{}, api.ErrMissing
	}
	f := feast{named: slices.Clone(targets)}
	for _, n := range o.plan(targets) {
		edge := o.m.Edges[n]
		if slices.ContainsFunc(needsBy(edge), missing) {
			return feast{}, api.ErrMissing
		}
		var files []cook.File // what was made first, as nothing hangs on that order
		for _, file := range f.made {
			if o.may(n, file.Name) {
				files = append(files, file)
			}
		}
		for _, file := range sources {
			if o.maker(file.Name) < 0 && !isOwn(file.Name) {
				files = append(files, file)
			}
		}
		d, e := cook.Cook(edge.Command, append(slices.Clone(edge.Ins), edge.Implicit...), files)
		var outs []string
		for _, out := range d.Outs {
			outs = append(outs, out.Name)
		}
		if e != api.OK || !slices.Equal(outs, edge.Outs) || d.Depfile != edge.Depfile {
			return feast{}, api.ErrCommand
		}
		f.made, f.named = append(f.made, d.Outs...), append(f.named, needsBy(edge)...)
		if d.Depfile != "" {
			_, found, _ := depfile.Parse(d.Deps)
			f.found = append(f.found, found...)
		}
	}
	return f, api.OK
}

// pick is one of these.
func pick(chance *rand.Rand, of ...string) string { return of[chance.Intn(len(of))] }

// rare is true once in so many times.
func rare(chance *rand.Rand, in int) bool { return chance.Intn(in) == 0 }

// tree is a manifest, what is there, and some names that may be asked for.
type tree struct {
	m       manifest.Manifest
	sources []cook.File
	outs    []string
}

// anyTree has its edges in any order. Now and then, once in as many times as far tells, something is wrong with it.
func anyTree(chance *rand.Rand, most, far int) tree {
	var t tree
	plain := []string{"s0", "s1", "s2", "s3"}
	for _, name := range append(slices.Clone(plain), "free") {
		t.sources = append(t.sources, of(name, pick(chance, "", "x", "12\n34", "\xff\x00\n", "#include s\n#include"))...)
	}
	for n := range chance.Intn(most + 1) {
		var e manifest.Edge
		known := slices.Concat(plain, t.outs, t.outs)
		for _, row := range []*[]string{&e.Ins, &e.Implicit, &e.Order} {
			for range chance.Intn(3) {
				*row = append(*row, pick(chance, known...))
			}
		}
		if rare(chance, far) {
			e.Ins = append(e.Ins, pick(chance, "none", "o1", "o5", "o9", "free", ".build_log", "build.ninja"))
		}
		for i := range 1 + chance.Intn(2) {
			e.Outs = append(e.Outs, "o"+strconv.Itoa(2*n+i))
		}
		if rare(chance, far) {
			e.Outs = append(e.Outs, pick(chance, "o0", "s1", "other", ".deps_log.new"))
		}
		t.command(chance, &e, n, far)
		t.m.Edges, t.outs = append(t.m.Edges, e), append(t.outs, e.Outs...)
	}
	chance.Shuffle(len(t.m.Edges), func(i, j int) { t.m.Edges[i], t.m.Edges[j] = t.m.Edges[j], t.m.Edges[i] })
	for range chance.Intn(3) * chance.Intn(2) {
		t.m.Defaults = append(t.m.Defaults, t.target(chance, far))
	}
	t.more(chance, far)
	chance.Shuffle(len(t.sources), func(i, j int) { t.sources[i], t.sources[j] = t.sources[j], t.sources[i] })
	return t
}

// command is one of the edge n, with what it may find.
func (t *tree) command(chance *rand.Rand, e *manifest.Edge, n, far int) {
	declared := append(slices.Clone(e.Ins), e.Implicit...)
	verb := pick(chance, "cat", "put", "sum", "rev", "inc", "inc", "inc")
	var args []string
	switch {
	case verb == "put" || verb == "cat" || verb == "sum":
		args = declared
		if len(declared) == 0 && verb == "sum" {
			verb = "cat"
		}
	case verb == "rev" && len(declared) > 0:
		args = declared[:1]
	default:
		verb, args = "inc", []string{"i" + strconv.Itoa(n)}
		e.Implicit = append(e.Implicit, args[0])
		t.sources = append(t.sources, of(args[0], t.including(chance, *e, n, far))...)
		e.Depfile = "o.d"
	}
	if rare(chance, far) {
		args = append(slices.Clone(args), pick(chance, "s0", "free", "none", "o0"))
	}
	e.Command = pick(chance, "", "", "once ") + strings.Join(slices.Concat([]string{verb}, args, []string{">"}, e.Outs), " ")
	if e.Depfile != "" {
		e.Command += " : o.d"
	}
	if rare(chance, far) {
		e.Command = pick(chance, "fail > "+e.Outs[0], "cat >", e.Command+" more", "put > "+e.Outs[0])
	}
	if rare(chance, far) {
		e.Depfile = pick(chance, "", "other.d", "o.d")
	}
}

// including is a text that puts in what may be there for an edge, if all goes well: files that no edge makes, and what it needs is made of.
func (t *tree) including(chance *rand.Rand, e manifest.Edge, n, far int) string {
	m := t.m
	m.Edges = append(slices.Clone(m.Edges), e)
	o := modelOf(m)
	may := []string{"s0", "s3", "free"}
	for _, name := range t.outs {
		if o.may(len(t.m.Edges), name) {
			may = append(may, name, name)
		}
	}
	text := ""
	for range chance.Intn(4) {
		text += "#include " + pick(chance, may...) + "\n"
	}
	if rare(chance, 4) {
		inner := "h" + strconv.Itoa(n)
		t.sources = append(t.sources, of(inner, "#include "+pick(chance, may...)+"\nin")...)
		text += "#include " + inner + "\n"
	}
	if rare(chance, far) {
		text += "#include " + pick(chance, append(t.outs, "none", "build.ninja", ".deps_log", "o.d")...) + "\n"
	}
	return text + pick(chance, "", "end", "end\n")
}

// more are files that do not count, or now and then one that is not there, or a second one.
func (t *tree) more(chance *rand.Rand, far int) {
	for _, name := range slices.Concat(t.outs, ownFiles, []string{"o.d", "else"}) {
		if rare(chance, 3) {
			t.sources = append(t.sources, of(name, pick(chance, "old", "#include none\n"))...)
		}
	}
	if rare(chance, far) {
		i := chance.Intn(len(t.sources))
		t.sources = slices.Delete(t.sources, i, i+1)
	}
	if rare(chance, far) {
		t.sources = append(t.sources, of(t.sources[chance.Intn(len(t.sources))].Name, "a second one")...)
	}
}

// target is one that may be asked for.
func (t *tree) target(chance *rand.Rand, far int) string {
	if rare(chance, far) {
		return pick(chance, "free", "none", "build.ninja", "")
	}
	return pick(chance, append(t.outs, "s0")...)
}

func (t *tree) someTargets(chance *rand.Rand, far int) []string {
	var all []string
	for range chance.Intn(4) {
		all = append(all, t.target(chance, far))
	}
	return all
}

func TestP16_2_ManyTrees(t *testing.T) {
	told := map[api.Errno]int{}
	all := 0
	for seed := range int64(8000) {
		chance := rand.New(rand.NewSource(seed))
		a := anyTree(chance, 1+chance.Intn(12), 60)
		o := modelOf(a.m)
		for range 4 {
			targets := a.someTargets(chance, 30)
			want, e := o.evaluated(a.sources, targets)
			if e == api.OK {
				makes(t, a.m, a.sources, targets, pairs(want.made)...)
			} else {
				fails(t, a.m, a.sources, e, targets...)
			}
			told[e]++
			all++
		}
	}
	for _, e := range []api.Errno{api.ErrTwice, api.ErrCycle, api.ErrName, api.ErrMissing, api.ErrCommand} {
		if told[e] < all/100 {
			t.Errorf("%d of %d are error %d", told[e], all, e)
		}
	}
	if told[api.OK] < all/3 {
		t.Errorf("%d of %d make something", told[api.OK], all)
	}
}

// pairs are files' names and bytes, one behind the other.
func pairs(files []cook.File) []string {
	var all []string
	for _, f := range files {
		all = append(all, f.Name, string(f.B))
	}
	return all
}

func TestP16_1_ManyTrees(t *testing.T) {
	for seed := range int64(1500) {
		chance := rand.New(rand.NewSource(seed))
		a := anyTree(chance, 10, 100)
		o := modelOf(a.m)
		e := o.graphFault()
		if e == api.ErrTwice || e == api.ErrCycle {
			continue
		}
		g := graphed(t, a.m)
		if scratch.Wrong(g) != (e == api.ErrName) {
			t.Errorf("Wrong of %q is %t", a.m, scratch.Wrong(g))
		}
		for n := -1; n <= len(a.m.Edges); n++ {
			for _, name := range slices.Concat(a.outs, ownFiles, names("s0", "i0", "free", "none", "o.d", "")) {
				if got := scratch.There(g, n, name); got != o.may(n, name) {
					t.Errorf("%q: There(%d, %q) is %t", a.m, n, name, got)
				}
			}
		}
	}
}

// good goes through trees of which something is made.
func good(t *testing.T, first int64, try func(chance *rand.Rand, a tree, targets []string, f feast)) {
	t.Helper()
	count := 0
	for seed := range int64(3000) {
		chance := rand.New(rand.NewSource(first + seed))
		a := anyTree(chance, 1+chance.Intn(12), 200)
		targets := a.someTargets(chance, 1000)
		f, e := modelOf(a.m).evaluated(a.sources, targets)
		if e == api.OK && len(f.made) > 0 {
			count++
			try(chance, a, targets, f)
		}
	}
	if count < 1000 {
		t.Errorf("%d trees are good", count)
	}
}

func TestP16_3_NothingElseCounts(t *testing.T) {
	turned := 0
	good(t, 1<<20, func(chance *rand.Rand, a tree, targets []string, f feast) {
		counts := append(slices.Clone(f.named), f.found...)
		var others []cook.File
		for _, file := range a.sources {
			switch {
			case slices.Contains(counts, file.Name) && modelOf(a.m).maker(file.Name) < 0:
				others = append(others, file)
			case rare(chance, 2):
				others = append(others, of(file.Name, pick(chance, "", "turned", "#include none\n"))...)
				turned++
			}
			if rare(chance, 4) {
				others = append(others, of(pick(chance, "new", "none", "o0", "build.ninja", file.Name), "more")...)
			}
		}
		makes(t, a.m, others, targets, pairs(f.made)...)
	})
	if turned < 1000 {
		t.Errorf("%d files were turned", turned)
	}
}

func TestP16_3_EachNamedOrFoundCounts(t *testing.T) {
	good(t, 2<<20, func(chance *rand.Rand, a tree, targets []string, f feast) {
		for _, name := range append(slices.Clone(f.named), f.found...) {
			if modelOf(a.m).maker(name) >= 0 {
				continue
			}
			less := slices.DeleteFunc(slices.Clone(a.sources), func(file cook.File) bool { return file.Name == name })
			want := api.ErrCommand
			if slices.Contains(f.named, name) {
				want = api.ErrMissing
			}
			made, e := scratch.Eval(a.m, less, targets)
			// One that is both may be found missing by an edge ahead of the one that needs it.
			if len(made) > 0 || e != want && !(e == api.ErrCommand && slices.Contains(f.found, name)) {
				t.Errorf("Eval(%q, %q, %q) without %q = %q, %d", a.m, less, targets, name, made, e)
			}
		}
	})
}

func TestP16_3_ATargetMore(t *testing.T) {
	grown := 0
	good(t, 3<<20, func(chance *rand.Rand, a tree, targets []string, f feast) {
		if len(targets) == 0 {
			targets = modelOf(a.m).targets()
		}
		other := a.target(chance, 1000)
		alone, alonesError := scratch.Eval(a.m, a.sources, []string{other})
		more := slices.Insert(slices.Clone(targets), chance.Intn(len(targets)+1), other)
		made, e := scratch.Eval(a.m, a.sources, more)
		if e != alonesError {
			t.Errorf("Eval(%q, %q, %q): %d, and of %q alone %d", a.m, a.sources, more, e, other, alonesError)
		}
		if e != api.OK {
			return
		}
		if len(made) > len(f.made) {
			grown++
		}
		for _, fewer := range [][]cook.File{f.made, alone} {
			rest := slices.DeleteFunc(slices.Clone(made), func(file cook.File) bool {
				return !slices.ContainsFunc(fewer, func(other cook.File) bool { return other.Name == file.Name })
			})
			if !sameFiles(rest, fewer) {
				t.Errorf("Eval(%q, %q, %q) = %q, and of fewer %q", a.m, a.sources, more, made, fewer)
			}
		}
	})
	if grown < 100 {
		t.Errorf("%d times more was made", grown)
	}
}

func TestP16_3_WhatWasMadeAheadDoesNotCount(t *testing.T) {
	good(t, 4<<20, func(chance *rand.Rand, a tree, targets []string, f feast) {
		makes(t, a.m, slices.Concat(f.made, a.sources), targets, pairs(f.made)...)
		makes(t, a.m, slices.Concat(a.sources, f.made), targets, pairs(f.made)...)
		var old []cook.File
		for _, file := range f.made {
			old = append(old, of(file.Name, "old")...)
		}
		makes(t, a.m, slices.Concat(old, a.sources), targets, pairs(f.made)...)
	})
}

func TestP16_3_TheSourcesOrderDoesNotCount(t *testing.T) {
	good(t, 5<<20, func(chance *rand.Rand, a tree, targets []string, f feast) {
		met := map[string]bool{}
		once := slices.DeleteFunc(slices.Clone(a.sources), func(file cook.File) bool {
			twice := met[file.Name]
			met[file.Name] = true
			return twice
		})
		for range 3 {
			chance.Shuffle(len(once), func(i, j int) { once[i], once[j] = once[j], once[i] })
			makes(t, a.m, once, targets, pairs(f.made)...)
		}
	})
}
