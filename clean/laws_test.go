package clean_test

import (
	"math/rand"
	"slices"
	"strings"
	"testing"

	"bellows/api"
	"bellows/clean"
	"bellows/disk"
	"bellows/engine"
	"bellows/reclog"
	"bellows/runs"
)

// outsOf are the outputs of a manifest's text whose builds' lines are of one rule each, by its words alone.
func outsOf(text string) []string {
	var outs []string
	for line := range strings.Lines(text) {
		if rest, ok := strings.CutPrefix(line, "build "); ok {
			made, _, _ := strings.Cut(rest, ":")
			outs = append(outs, strings.Fields(made)...)
		}
	}
	return outs
}

// mortal tells by the words alone what is dead: what the log of runs tells, and the manifest's text does not.
func (x *tree) mortal() []string {
	x.t.Helper()
	text, e := x.d.Read(api.Manifest)
	must(x.t, e)
	log, e := x.d.Read(api.RunsLog)
	if e == api.ErrMissing {
		return nil
	}
	must(x.t, e)
	records, _, e := reclog.Scan(log, 1)
	must(x.t, e)
	var dead []string
	for _, record := range records {
		r, e := runs.Read(record)
		must(x.t, e)
		if !slices.Contains(outsOf(string(text)), r.Out) {
			dead = append(dead, r.Out)
		}
	}
	slices.Sort(dead)
	return slices.Compact(dead)
}

// cleaned asks for a cleaning that removes what is dead and there, and nothing else.
func (x *tree) cleaned() []string {
	x.t.Helper()
	dead := x.mortal()
	x.dead(dead...)
	there := slices.DeleteFunc(slices.Clone(dead), func(name string) bool {
		_, e := x.d.Stat(name)
		return e != api.OK
	})
	x.cleans(there...)
	x.dead(dead...)
	return there
}

// compacted asks for a compacting behind which no output is dead, and all that is told of others is as it was.
func (x *tree) compacted() {
	x.t.Helper()
	entries, _ := x.told()
	for _, out := range x.mortal() {
		delete(entries, out)
	}
	x.compacts()
	x.dead()
	x.cleans()
	if now, _ := x.told(); !sameEntries(now, entries) {
		x.t.Errorf("%v is known, want %v", now, entries)
	}
}

// pick is one of these.
func pick(chance *rand.Rand, of ...string) string { return of[chance.Intn(len(of))] }

// anyManifest makes some outputs, each of sources and of outputs ahead.
func anyManifest(chance *rand.Rand) string {
	text := rules
	files := names("s0", "s1", "s2")
	outs := names("o0", "o1", "o2", "p/o3", "o4", "o5", "s3")
	chance.Shuffle(len(outs), func(i, j int) { outs[i], outs[j] = outs[j], outs[i] })
	for len(outs) > 0 {
		n := min(len(outs), 1+chance.Intn(2))
		if chance.Intn(3) > 0 {
			need := pick(chance, files...)
			text += "build " + strings.Join(outs[:n], " ") + " : " + pick(chance, "put", "cat "+need, "inc "+need, "cat "+need+" s0", "put || "+need) + "\n"
			files = append(files, outs[:n]...)
		}
		outs = outs[n:]
	}
	return text
}

// life is a tree, and what happens to it.
type life struct {
	*tree
	chance    *rand.Rand
	manifests []string
}

func begun(t *testing.T, seed int64) *life {
	t.Helper()
	chance := rand.New(rand.NewSource(seed))
	x := &life{tree: planted(t, rules), chance: chance}
	for range 4 {
		x.manifests = append(x.manifests, anyManifest(chance))
	}
	x.mend()
	return x
}

// mend writes the sources that are not there, and one of the manifests.
func (x *life) mend() {
	x.t.Helper()
	for _, name := range names("s0", "s1", "s2") {
		if _, e := x.d.Stat(name); e != api.OK {
			x.write(name, pick(x.chance, "#include s3\n", "1\n", "#include s1\n"))
		}
	}
	x.write("build.ninja", pick(x.chance, x.manifests...))
}

// crash restarts with a part of what was not sure.
func (x *life) crash() {
	k := disk.Keep{Dir: x.chance.Intn(12)}
	for range x.chance.Intn(4) {
		k.Tails = append(k.Tails, x.chance.Intn(3)*x.chance.Intn(200))
	}
	x.d.Restart(k)
	x.mend()
}

// down does something, in which the disk goes down, mostly, and tells whether it did.
func (x *life) down(do func()) string {
	x.d.Arm(x.chance.Intn(12))
	do()
	if x.d.Down() {
		x.crash()
		return "crash"
	}
	x.d.Arm(-1)
	return "armed"
}

// act does something, and tells what.
func (x *life) act() string {
	switch x.chance.Intn(12) {
	case 0:
		x.write(pick(x.chance, "s0", "s1", "s2", "s3", "o1", "o4"), pick(x.chance, "1\n", "2\n", "#include s2\n"))
		return "turn"
	case 1:
		x.d.Remove(pick(x.chance, "s3", "o0", "o1", "o2", "p/o3"))
		return "remove"
	case 2, 3:
		x.write("build.ninja", pick(x.chance, x.manifests...))
		return "manifest"
	case 4:
		return x.down(func() { engine.Build(x.d, nil) }) + " within a build"
	case 5:
		return x.down(func() { clean.Clean(x.d) }) + " within a cleaning"
	case 6:
		return x.down(func() { clean.Compact(x.d) }) + " within a compacting"
	case 7:
		if len(x.cleaned()) == 0 {
			return "nothing cleaned"
		}
		return "clean"
	case 8:
		_, e := engine.Build(x.d, nil)
		x.compacted()
		if e != api.OK {
			return "compact"
		}
		// A build that had nothing to run has nothing to run.
		x.builds()
		return "compact what was built"
	}
	engine.Build(x.d, nil)
	return "build"
}

// TestP19_3_ManyLives: whatever happened ahead, a cleaning removes what is dead, and nothing else.
func TestP19_3_ManyLives(t *testing.T) {
	met := map[string]int{}
	for seed := range int64(800) {
		x := begun(t, seed)
		for act := range 50 {
			did := x.act()
			met[did]++
			if t.Failed() {
				t.Fatalf("life %d, act %d, %s", seed, act, did)
			}
		}
	}
	for what, least := range map[string]int{"turn": 1000, "remove": 1000, "manifest": 1000, "build": 1000, "clean": 500, "nothing cleaned": 500, "compact": 200, "compact what was built": 500, "crash within a build": 500, "crash within a cleaning": 50, "armed within a cleaning": 500, "crash within a compacting": 500, "armed within a compacting": 500} {
		if met[what] < least {
			t.Errorf("%s was met %d times alone", what, met[what])
		}
	}
}

// keeps are what a crash may leave.
func keeps() []disk.Keep {
	var all []disk.Keep
	for _, dir := range []int{0, 1, 2, 3, 4, 5, 1000} {
		for _, tails := range [][]int{nil, {1000}, {9}, {50, 1000}, {1000, 50, 3}, {0, 1000, 1000}} {
			all = append(all, disk.Keep{Dir: dir, Tails: tails})
		}
	}
	return all
}

// grown is a tree with some dead outputs, all of it sure.
func grown(t *testing.T) *tree {
	t.Helper()
	x := built(t)
	x.write("build.ninja", rules+"build c: put\nbuild i: inc s\n")
	must(t, x.d.Remove("b"))
	x.sure()
	return x
}

// TestP19_3_CrashesWithinACleaning: another one comes to the same.
func TestP19_3_CrashesWithinACleaning(t *testing.T) {
	x := grown(t)
	x.cleans("a", "e/f", "z")
	want := x.files()
	for left := range 5 {
		for _, k := range keeps() {
			x := grown(t)
			x.d.Arm(left)
			ahead, _ := clean.Clean(x.d)
			x.d.Restart(k)
			behind := x.cleaned()
			x.has(want)
			if all := slices.Compact(slices.Sorted(slices.Values(slices.Concat(ahead, behind)))); !slices.Equal(all, names("a", "e/f", "z")) {
				t.Errorf("%q was removed, then %q", ahead, behind)
			}
			// So it is of all that is sure, too.
			x.d.Restart(disk.Keep{})
			x.has(want)
			if t.Failed() {
				t.Fatalf("crash at %d, %v", left, k)
			}
		}
	}
}

// TestP19_3_CrashesWithinACompacting: what is known of live outputs is known behind it, and what is dead may be cleaned, or compacted.
func TestP19_3_CrashesWithinACompacting(t *testing.T) {
	met := map[int]int{}
	for left := range 9 {
		for _, k := range keeps() {
			x := grown(t)
			was := x.files()
			x.d.Arm(left)
			clean.Compact(x.d)
			x.d.Restart(k)
			x.has(was)
			x.builds()
			met[len(x.mortal())]++
			if rest := x.mortal(); len(rest) > 0 {
				x.dead("a", "b", "e/f", "z")
				x.cleaned()
			}
			x.compacted()
			x.knows("c", "i")
			x.builds()
			if t.Failed() {
				t.Fatalf("crash at %d, %v", left, k)
			}
		}
	}
	if len(met) != 2 || met[0] == 0 || met[4] == 0 {
		t.Errorf("of dead ones there were %v", met)
	}
}

// TestP19_3_WhatComesBack: an output that was removed is made anew, once its edge is there again; so is one that was forgotten, and is there.
func TestP19_3_WhatComesBack(t *testing.T) {
	x := built(t)
	x.write("build.ninja", rules)
	x.cleans("a", "b", "c", "e/f", "i", "z")
	x.write("build.ninja", all)
	x.builds("c", "a", "i", "e/f", "z")
	x.write("build.ninja", rules+"build c: put\nbuild i: inc s\n")
	x.builds()
	x.compacts()
	// Nothing is known of the others any more, so they are nobody's, and stay.
	x.cleans()
	x.write("build.ninja", all)
	x.builds("a", "e/f", "z")
	x.builds()
}
