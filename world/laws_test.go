package world_test

import (
	"bytes"
	"maps"
	"math/rand"
	"slices"
	"strconv"
	"strings"
	"testing"

	"bellows/api"
	"bellows/clean"
	"bellows/cook"
	"bellows/disk"
	"bellows/engine"
	"bellows/manifest"
	"bellows/scratch"
	"bellows/world"
)

// twin does with a disk what the words say of an act, by the layers that it names.
func twin(d *disk.Disk, a world.Act) world.Out {
	switch a.Kind {
	case write:
		return world.Out{E: d.Write(a.Name, a.B)}
	case add:
		return world.Out{E: d.Append(a.Name, a.B)}
	case cut:
		return world.Out{E: d.Cut(a.Name, a.N)}
	case remove:
		return world.Out{E: d.Remove(a.Name)}
	case sync:
		first := d.Sync(a.Name)
		if second := d.SyncDir(); first == api.OK {
			first = second
		}
		return world.Out{E: first}
	case build:
		r, e := engine.Build(d, a.Names)
		return world.Out{E: e, Names: r.Ran, Records: r.Records}
	case tidy:
		l, e := clean.Clean(d)
		return world.Out{E: e, Names: l}
	case compact:
		return world.Out{E: clean.Compact(d)}
	case arm:
		d.Arm(a.N)
	case restart:
		d.Restart(disk.Keep{Dir: a.N, Tails: a.Tails})
	case read:
		b, e := d.Read(a.Name)
		return world.Out{E: e, B: b}
	default:
		return world.Out{E: api.ErrForm}
	}
	return world.Out{}
}

// sameDisk: is there the same on both?
func sameDisk(a, b *disk.Disk) bool {
	sameFile := func(name string) bool {
		x, _ := a.Read(name)
		y, _ := b.Read(name)
		s, _ := a.Stat(name)
		u, _ := b.Stat(name)
		return bytes.Equal(x, y) && s == u
	}
	return a.Down() == b.Down() && a.Deeds() == b.Deeds() && a.Used() == b.Used() && slices.Equal(a.Names(), b.Names()) &&
		!slices.ContainsFunc(a.Names(), func(name string) bool { return !sameFile(name) })
}

const rules = `
rule cat
  command = cat $in > $out
rule rev
  command = rev $in > $out
rule sum
  command = sum $in > $out
rule put
  command = put $words > $out
rule once
  command = once sum $in > $out
rule inc
  command = inc $in > $out : d
  depfile = d
rule fail
  command = fail > $out
`

// sources are files that no manifest makes.
func sources() []string { return names("s0", "s1", "s2", "s3", "mine") }

// outputs are files that a manifest may make.
func outputs() []string { return names("o0", "o1", "o2", "p/o3", "o4", "o5") }

// pick is one of these.
func pick(chance *rand.Rand, of ...string) string { return of[chance.Intn(len(of))] }

// rare is true once in so many times.
func rare(chance *rand.Rand, in int) bool { return chance.Intn(in) == 0 }

// anyText is what a file may have.
func anyText(chance *rand.Rand) string {
	return pick(chance, "", "1", "12\n", "#include s1\n", "#include mine\n2\n", "#include o0\n", "#include o1\nrest", "#include none\n")
}

// anyManifest makes some outputs, each of sources and of outputs ahead.
func anyManifest(chance *rand.Rand) string {
	text := rules
	known := sources()[:4]
	outs := outputs()
	chance.Shuffle(len(outs), func(i, j int) { outs[i], outs[j] = outs[j], outs[i] })
	var edges []string
	for len(outs) > 0 {
		n := min(len(outs), 1+chance.Intn(5)/4)
		a, b := pick(chance, known...), pick(chance, known...)
		by := pick(chance, "cat "+a, "cat "+a+" "+b, "rev "+a, "sum "+a+" | "+b, "once "+a, "once "+a+" "+b, "inc "+a, "inc s0 || "+b, "inc s2 | "+b, "put\n words = "+a)
		if rare(chance, 30) {
			by = "fail"
		}
		if !rare(chance, 4) {
			edges = append(edges, "build "+strings.Join(outs[:n], " ")+": "+by+"\n")
			known = append(known, outs[:n]...)
		}
		outs = outs[n:]
	}
	chance.Shuffle(len(edges), func(i, j int) { edges[i], edges[j] = edges[j], edges[i] })
	text += strings.Join(edges, "")
	if rare(chance, 4) {
		text += "default " + pick(chance, known...) + "\n"
	}
	return text
}

// teller tells acts of a life, by chance, and holds what they come to against what is promised.
type teller struct {
	*life
	chance    *rand.Rand
	quota     int
	beside    *disk.Disk
	manifests []string
	copies    [][]byte // of logs, as they were now and then
	acts      []world.Act
	told      []world.Out
}

func telling(t *testing.T, seed int64) *teller {
	t.Helper()
	chance := rand.New(rand.NewSource(seed))
	x := &teller{chance: chance, quota: 1 << 20}
	if rare(chance, 4) {
		x.quota = 600 + chance.Intn(1500)
	}
	x.life = begun(t, x.quota)
	x.beside, _ = disk.New(x.quota)
	for range 3 {
		x.manifests = append(x.manifests, anyManifest(chance))
	}
	x.mend()
	return x
}

// act does an act, in the world and beside it.
func (x *teller) act(a world.Act) world.Out {
	x.t.Helper()
	was := x.kept()
	out := x.Do(a)
	if want := twin(x.beside, a); !sameOut(out, want) || !sameDisk(x.Disk(), x.beside) {
		x.t.Errorf("%v tells %v, want %v, or leaves another disk", a, out, want)
	}
	if (a.Kind == build || a.Kind == tidy || a.Kind == compact) && !x.Disk().Down() && !maps.Equal(x.kept(), was) {
		x.t.Errorf("%v turned what is nobody's: %v, want %v", a, x.kept(), was)
	}
	x.acts, x.told = append(x.acts, a), append(x.told, out)
	return out
}

// stated is what a file has, and since when.
type stated struct {
	text string
	stat disk.Stat
}

// kept is all that no build, cleaning or compacting may turn: all but outputs and logs.
func (x *teller) kept() map[string]stated {
	all := map[string]stated{}
	for _, name := range append(sources(), api.Manifest) {
		b, e := x.Disk().Read(name)
		s, _ := x.Disk().Stat(name)
		if e == api.OK {
			all[name] = stated{string(b), s}
		}
	}
	return all
}

// mend writes a manifest and all sources.
func (x *teller) mend() {
	x.t.Helper()
	x.act(world.Act{Kind: write, Name: api.Manifest, B: []byte(pick(x.chance, x.manifests...))})
	for _, name := range sources() {
		x.act(world.Act{Kind: write, Name: name, B: []byte(anyText(x.chance))})
	}
}

// restart restarts with a part of what was not sure.
func (x *teller) restart() {
	x.t.Helper()
	k := world.Act{Kind: restart, N: x.chance.Intn(14) - 1}
	for range x.chance.Intn(4) {
		k.Tails = append(k.Tails, x.chance.Intn(3)*x.chance.Intn(200)-1)
	}
	x.act(k)
}

// file is any file's name.
func (x *teller) file() string {
	switch {
	case rare(x.chance, 3):
		return pick(x.chance, outputs()...)
	case rare(x.chance, 30):
		return pick(x.chance, api.RunsLog, api.NamesLog, api.RunsLog+".new", api.NamesLog+".new", "d", "")
	}
	return pick(x.chance, sources()...)
}

// content is what may be written into a file: into a log just what a log had.
func (x *teller) content(name string) []byte {
	if scratch.Own(name) && len(x.copies) > 0 {
		return x.copies[x.chance.Intn(len(x.copies))]
	}
	return []byte(anyText(x.chance))
}

// targets are some of what may be built, or none.
func (x *teller) targets() []string {
	var all []string
	for range x.chance.Intn(3) * x.chance.Intn(2) {
		all = append(all, pick(x.chance, append(outputs(), "s0")...))
	}
	return all
}

// any does something, and tells what.
func (x *teller) any() string {
	x.t.Helper()
	switch name := x.file(); x.chance.Intn(20) {
	case 0, 1, 2:
		x.act(world.Act{Kind: write, Name: name, B: x.content(name)})
		return "write"
	case 3:
		x.act(world.Act{Kind: add, Name: name, B: x.content(name)})
		return "append"
	case 4:
		x.act(world.Act{Kind: cut, Name: name, N: x.chance.Intn(5) - 1})
		return "cut"
	case 5:
		x.act(world.Act{Kind: remove, Name: name})
		return "remove"
	case 6:
		x.act(world.Act{Kind: sync, Name: name})
		return "sync"
	case 7:
		x.copies = append(x.copies, x.act(world.Act{Kind: read, Name: pick(x.chance, api.RunsLog, api.NamesLog)}).B)
		return "read"
	case 8:
		x.act(world.Act{Kind: write, Name: api.Manifest, B: []byte(pick(x.chance, x.manifests...))})
		return "manifest"
	case 9:
		x.act(world.Act{Kind: arm, N: x.chance.Intn(20) - 1})
		return "arm"
	case 10:
		x.restart()
		return "restart"
	case 11:
		return "clean " + strconv.Itoa(len(x.act(world.Act{Kind: tidy}).Names))
	case 12:
		return "compact " + strconv.Itoa(int(x.act(world.Act{Kind: compact}).E))
	case 13:
		x.act(world.Act{Kind: x.chance.Intn(1000)*12 - 24, Name: name})
		return "none"
	}
	return "build " + strconv.Itoa(int(x.builds(x.targets()).E))
}

// builds builds; if no error is told, what is evaluated is there, and another build at once does nothing.
func (x *teller) builds(targets []string) world.Out {
	x.t.Helper()
	out := x.act(world.Act{Kind: build, Names: targets})
	if out.E != api.OK {
		return out
	}
	x.evaluated(targets)
	// A disk that is armed may be down by now: each opening may be a deed.
	if again := x.act(world.Act{Kind: build, Names: targets}); len(again.Names)+again.Records != 0 || again.E != api.OK && again.E != api.ErrDown {
		x.t.Errorf("another build tells %v", again)
	}
	return out
}

// evaluated asks for the bytes that are made from scratch.
func (x *life) evaluated(targets []string) {
	x.t.Helper()
	var files []cook.File
	for _, name := range x.Disk().Names() {
		files = append(files, cook.File{Name: name, B: x.Do(world.Act{Kind: read, Name: name}).B})
	}
	text, _ := cook.Find(files, api.Manifest)
	m, _, _ := manifest.Parse(string(text))
	made, e := scratch.Eval(m, files, targets)
	if e != api.OK {
		x.t.Errorf("from scratch: %d", e)
	}
	for _, f := range made {
		if b, there := cook.Find(files, f.Name); !there || !bytes.Equal(b, f.B) {
			x.t.Errorf("%s has %q, want %q", f.Name, b, f.B)
		}
	}
}

// TestP20_2_ManyLives: an act tells, and leaves, what the layers below do; behind all of them a restart, and a mending, a build that tells no error leaves what is evaluated; and a run of the same acts tells the same.
func TestP20_2_ManyLives(t *testing.T) {
	met := map[string]int{}
	for seed := range int64(1500) {
		x := telling(t, seed)
		for range x.chance.Intn(60) {
			met[x.any()]++
		}
		x.restart()
		x.mend()
		met["at last "+strconv.Itoa(int(x.builds(x.targets()).E))]++
		for range 2 {
			if told, e := world.Run(x.quota, x.acts); e != api.OK || !sameOuts(told, x.told) {
				t.Errorf("Run tells %v, %d, want %v", told, e, x.told)
			}
		}
		if t.Failed() {
			t.Fatalf("life %d, of %v", seed, x.acts)
		}
	}
	for what, least := range map[string]int{"write": 1000, "append": 500, "cut": 500, "remove": 500, "sync": 500, "read": 500, "manifest": 500, "arm": 500, "restart": 500, "clean 0": 500, "clean 1": 50, "clean 2": 20, "compact 0": 500, "none": 500, "build 0": 2000, "build 8": 500, "build 13": 200, "at last 0": 500, "at last 13": 100, "at last 7": 20} {
		if met[what] < least {
			t.Errorf("%s was met %d times alone", what, met[what])
		}
	}
}

// mended is what stands behind any acts: a restart, and the manifest and all sources written.
func mended(k world.Act, text string) []world.Act {
	return []world.Act{k, {Kind: write, Name: api.Manifest, B: []byte(text)}, {Kind: write, Name: "a", B: []byte("#include h\n")}, {Kind: write, Name: "h", B: []byte("12")}}
}

// full is a manifest with an edge below another one, one with what is found, and one of two outputs.
const full = rules + "build i: inc a\nbuild b: rev i\nbuild c c2: once b h\n"

// TestP20_2_AllShortLives: behind all rows of a few acts, too.
func TestP20_2_AllShortLives(t *testing.T) {
	l := []world.Act{
		{Kind: build}, {Kind: build, Names: names("b")}, {Kind: tidy}, {Kind: compact}, {Kind: arm, N: 7},
		{Kind: restart}, {Kind: restart, N: 6, Tails: []int{60, 0, 1000}}, {Kind: remove, Name: "b"}, {Kind: write, Name: "h", B: []byte("3")},
		{Kind: write, Name: api.Manifest, B: []byte(rules + "build c: once h\n")}, {Kind: cut, Name: "i", N: 1},
		{Kind: write, Name: api.Manifest, B: []byte(full)},
	}
	const length = 4
	rows := 1
	for range length {
		rows *= len(l)
	}
	for row := range rows {
		x := begun(t, 1<<20)
		acts := mended(world.Act{Kind: restart}, full)
		for n := row; n > 0; n /= len(l) {
			acts = append(acts, l[n%len(l)])
		}
		acts = append(acts, mended(world.Act{Kind: restart, N: row % 9, Tails: []int{row % 100}}, full)...)
		for _, a := range acts {
			x.Do(a)
		}
		x.ok(world.Act{Kind: build})
		x.evaluated(nil)
		x.does(world.Act{Kind: build}, world.Out{})
		if t.Failed() {
			t.Fatalf("behind %v", acts)
		}
	}
}

// TestP20_2_AllCrashes: a crash at each deed of one life turns nothing of what a build leaves behind it.
func TestP20_2_AllCrashes(t *testing.T) {
	acts := slices.Concat(mended(world.Act{Kind: restart}, full), []world.Act{
		{Kind: build}, {Kind: add, Name: "h", B: []byte("3")}, {Kind: sync, Name: "h"}, {Kind: build, Names: names("b")}, {Kind: remove, Name: "i"}, {Kind: build},
		{Kind: write, Name: api.Manifest, B: []byte(rules + "build b: rev a\n")}, {Kind: tidy}, {Kind: build}, {Kind: compact}, {Kind: build},
	})
	lived := begun(t, 1<<20)
	lived.ok(acts...)
	for crash := range lived.Disk().Deeds() + 1 {
		for _, dir := range []int{0, 1, 2, 3, 5, 8, 13, 1000} {
			for _, tails := range [][]int{nil, {1000}, {0, 1000}, {60, 0, 5}, {1000, 120, 0, 2}} {
				x := begun(t, 1<<20)
				x.ok(world.Act{Kind: arm, N: crash})
				// A restart is no deed, but ends the arming, so the first act of the life is left out.
				for _, a := range acts[1:] {
					x.Do(a)
				}
				x.ok(mended(world.Act{Kind: restart, N: dir, Tails: tails}, full)...)
				// All edges are run, since all sources were written anew.
				if out := x.Do(world.Act{Kind: build}); out.E != api.OK || !slices.Equal(out.Names, names("i", "b", "c")) {
					t.Errorf("a build tells %v", out)
				}
				x.evaluated(nil)
				x.does(world.Act{Kind: build}, world.Out{})
				if t.Failed() {
					t.Fatalf("crash at %d, %d changes, tails %v", crash, dir, tails)
				}
			}
		}
	}
}

// TestP20_2_SourcesThatStay: where no source is written anew, what is known, and sure, is not run behind a restart.
func TestP20_2_SourcesThatStay(t *testing.T) {
	x := begun(t, 1<<20)
	x.ok(mended(world.Act{Kind: restart}, full)...)
	x.does(world.Act{Kind: build}, world.Out{Names: names("i", "b", "c"), Records: 7})
	for _, name := range x.Disk().Names() {
		x.ok(world.Act{Kind: sync, Name: name})
	}
	x.ok(world.Act{Kind: restart})
	x.does(world.Act{Kind: build}, world.Out{})
	x.evaluated(nil)
}
