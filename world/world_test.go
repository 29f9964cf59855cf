package world_test

import (
	"bytes"
	"slices"
	"strconv"
	"strings"
	"testing"

	"bellows/api"
	"bellows/world"
)

// The kinds of an act, as the document numbers them.
const (
	write   = 1
	add     = 2
	cut     = 3
	remove  = 4
	sync    = 5
	build   = 6
	tidy    = 7
	compact = 8
	arm     = 9
	restart = 10
	read    = 11
)

func names(all ...string) []string { return all }

// life is a world, and a test of it.
type life struct {
	t *testing.T
	*world.World
}

func begun(t *testing.T, quota int) *life {
	t.Helper()
	w, e := world.New(quota)
	if e != api.OK || w == nil {
		t.Fatalf("New(%d): %v, %d", quota, w, e)
	}
	return &life{t, w}
}

// does asks an act to tell just this.
func (x *life) does(a world.Act, want world.Out) {
	x.t.Helper()
	if got := x.Do(a); !sameOut(got, want) {
		x.t.Errorf("%v tells %v, want %v", a, got, want)
	}
}

// ok asks acts to tell no error.
func (x *life) ok(all ...world.Act) {
	x.t.Helper()
	for _, a := range all {
		if got := x.Do(a); got.E != api.OK {
			x.t.Errorf("%v tells %v", a, got)
		}
	}
}

// writes writes a file.
func (x *life) writes(name, text string) {
	x.t.Helper()
	x.does(world.Act{Kind: write, Name: name, B: []byte(text)}, world.Out{})
}

// has asks for a file with these bytes.
func (x *life) has(name, text string) {
	x.t.Helper()
	x.does(world.Act{Kind: read, Name: name}, world.Out{B: []byte(text)})
}

// lacks asks for no such file.
func (x *life) lacks(name string) {
	x.t.Helper()
	x.does(world.Act{Kind: read, Name: name}, world.Out{E: api.ErrMissing})
}

// builds asks for a build that runs these, and appends a record of each.
func (x *life) builds(ran ...string) {
	x.t.Helper()
	x.does(world.Act{Kind: build}, world.Out{Names: ran, Records: len(ran)})
}

func sameOut(a, b world.Out) bool {
	return a.E == b.E && a.Records == b.Records && slices.Equal(a.Names, b.Names) && bytes.Equal(a.B, b.B)
}

func sameOuts(a, b []world.Out) bool { return slices.EqualFunc(a, b, sameOut) }

const reversed = "rule r\n  command = rev $in > $out\n"

func TestP20_1_Examples(t *testing.T) {
	x := begun(t, 1<<20)
	x.writes("a", "12")
	x.writes("build.ninja", reversed+"build o: r a\n")
	x.builds("o")
	x.builds()
	x.has("o", "21")
}

// TestP20_1_ExamplesOfTheWhole: the ten of them, in order.
func TestP20_1_ExamplesOfTheWhole(t *testing.T) {
	const b = reversed + "build b: r a\n"
	const c = b + "build c: r b\n"
	x := begun(t, 1<<20)
	x.writes("build.ninja", c)
	x.writes("a", "12")
	x.builds("b", "c")
	x.has("c", "12")
	x.builds()
	x.writes("a", "12")
	x.builds("b", "c")
	x.ok(world.Act{Kind: remove, Name: "b"})
	x.builds("b", "c")
	x.ok(world.Act{Kind: add, Name: "c", B: []byte("3")})
	x.builds("c")
	x.ok(world.Act{Kind: sync, Name: "build.ninja"}, world.Act{Kind: sync, Name: "a"}, world.Act{Kind: sync, Name: "c"})
	x.ok(world.Act{Kind: restart, N: 100})
	x.has("b", "")
	x.has("c", "12")
	x.builds("b", "c")
	x.ok(world.Act{Kind: sync, Name: "b"}, world.Act{Kind: sync, Name: "c"})
	logged := len(x.Do(world.Act{Kind: read, Name: api.RunsLog}).B)
	x.ok(world.Act{Kind: cut, Name: api.RunsLog, N: logged - 1})
	x.builds("c")
	x.writes("build.ninja", b)
	x.does(world.Act{Kind: tidy}, world.Out{Names: names("c")})
	x.lacks("c")
	x.ok(world.Act{Kind: compact})
	x.writes("build.ninja", c)
	x.builds("c")
	x.has("c", "12")
}

func TestP20_1_New(t *testing.T) {
	for _, quota := range []int{-1, api.MaxQuota + 1, -1 << 63, 1<<63 - 1} {
		if w, e := world.New(quota); w != nil || e != api.ErrArg {
			t.Errorf("New(%d) = %v, %d", quota, w, e)
		}
		for _, l := range [][]world.Act{nil, {{Kind: 0}}, {{Kind: read, Name: "a"}}} {
			if told, e := world.Run(quota, l); len(told) != 0 || e != api.ErrArg {
				t.Errorf("Run(%d) = %v, %d", quota, told, e)
			}
		}
	}
	for _, quota := range []int{0, 1, api.MaxQuota} {
		x := begun(t, quota)
		if d := x.Disk(); d == nil || d.Down() || len(d.Names()) != 0 || d.Deeds() != 0 {
			t.Errorf("New(%d): its disk is not a new one", quota)
		}
		if told, e := world.Run(quota, nil); len(told) != 0 || e != api.OK {
			t.Errorf("Run(%d) = %v, %d", quota, told, e)
		}
	}
	// The quota is the disk's.
	x := begun(t, 2)
	x.does(world.Act{Kind: write, Name: "a", B: []byte("123")}, world.Out{E: api.ErrSpace})
	x.writes("a", "12")
	x.does(world.Act{Kind: add, Name: "a", B: []byte("3")}, world.Out{E: api.ErrSpace})
}

// TestP20_1_Disk: it is the same one each time, and what is done with it is done in the world.
func TestP20_1_Disk(t *testing.T) {
	x := begun(t, 100)
	x.writes("a", "1")
	d := x.Disk()
	if b, e := d.Read("a"); e != api.OK || string(b) != "1" {
		t.Errorf("Read = %q, %d", b, e)
	}
	d.Write("b", []byte("2"))
	x.has("b", "2")
	d.Arm(0)
	x.does(world.Act{Kind: remove, Name: "a"}, world.Out{E: api.ErrDown})
	if x.Disk() != d || !d.Down() {
		t.Error("it is another disk")
	}
}

func TestP20_1_KindsThatAreNone(t *testing.T) {
	x := begun(t, 100)
	x.writes("a", "1")
	deeds := x.Disk().Deeds()
	for _, kind := range []int{0, -1, 12, 13, 255, 256 + write, 1<<32 + write, 1<<63 - 1, -1 << 63} {
		full := world.Act{Kind: kind, N: 1, Name: "a", B: []byte("1"), Names: names("a"), Tails: []int{1}}
		x.does(world.Act{Kind: kind}, world.Out{E: api.ErrForm})
		x.does(full, world.Out{E: api.ErrForm})
		if told, e := world.Run(100, []world.Act{full}); e != api.OK || !sameOuts(told, []world.Out{{E: api.ErrForm}}) {
			t.Errorf("Run tells %v, %d", told, e)
		}
	}
	if x.Disk().Deeds() != deeds {
		t.Error("there were deeds")
	}
	x.Disk().Arm(0)
	x.does(world.Act{Kind: sync, Name: "a"}, world.Out{E: api.ErrDown})
	x.does(world.Act{Kind: 12}, world.Out{E: api.ErrForm})
}

func TestP20_1_NoWorld(t *testing.T) {
	var none *world.World
	for kind := -1; kind < 14; kind++ {
		x := &life{t, none}
		x.does(world.Act{Kind: kind}, world.Out{E: api.ErrDown})
		x.does(world.Act{Kind: kind, N: 1, Name: "a", B: []byte("1"), Names: names("a"), Tails: []int{1}}, world.Out{E: api.ErrDown})
	}
	if none.Disk() != nil {
		t.Error("it has a disk")
	}
	// One that New did not make has none either, so nothing but an arming and a restart is done there.
	for kind := write; kind <= read; kind++ {
		x := &life{t, &world.World{}}
		want := world.Out{E: api.ErrDown}
		if kind == arm || kind == restart {
			want = world.Out{}
		}
		x.does(world.Act{Kind: kind, Name: "a"}, want)
	}
}

func TestP20_1_Files(t *testing.T) {
	x := begun(t, 1<<20)
	long := bytes.Repeat([]byte("1"), api.MaxFile)
	for _, wrong := range []struct {
		act  world.Act
		want api.Errno
	}{
		{world.Act{Kind: write}, api.ErrName}, {world.Act{Kind: write, Name: "a/../b", B: []byte("1")}, api.ErrName},
		{world.Act{Kind: write, Name: "a", B: append(long, 0)}, api.ErrLong}, {world.Act{Kind: add, Name: "/a"}, api.ErrName},
		{world.Act{Kind: cut, Name: "a"}, api.ErrMissing}, {world.Act{Kind: cut}, api.ErrName}, {world.Act{Kind: remove, Name: "a"}, api.ErrMissing},
		{world.Act{Kind: remove, Name: "a/"}, api.ErrName}, {world.Act{Kind: read, Name: "a"}, api.ErrMissing}, {world.Act{Kind: read}, api.ErrMissing},
	} {
		x.does(wrong.act, world.Out{E: wrong.want})
	}
	x.ok(world.Act{Kind: add, Name: "a", B: []byte("123")}, world.Act{Kind: add, Name: "a", B: []byte("45")})
	x.has("a", "12345")
	x.does(world.Act{Kind: cut, Name: "a", N: 6}, world.Out{E: api.ErrArg})
	x.does(world.Act{Kind: cut, Name: "a", N: -1}, world.Out{E: api.ErrArg})
	x.ok(world.Act{Kind: cut, Name: "a", N: 2})
	x.has("a", "12")
	x.ok(world.Act{Kind: cut, Name: "a"})
	x.has("a", "")
	x.writes("a", string(long))
	x.does(world.Act{Kind: add, Name: "a", B: []byte("1")}, world.Out{E: api.ErrLong})
	x.has("a", string(long))
	x.ok(world.Act{Kind: remove, Name: "a"})
	x.lacks("a")
}

// TestP20_1_Sync: the file is synced, then the directory, whatever became of the file.
func TestP20_1_Sync(t *testing.T) {
	x := begun(t, 100)
	x.writes("a", "12")
	x.writes("b", "34")
	x.ok(world.Act{Kind: sync, Name: "a"}, world.Act{Kind: restart})
	x.has("a", "12")
	x.has("b", "")
	for _, wrong := range []struct {
		name string
		want api.Errno
	}{{"none", api.ErrMissing}, {"", api.ErrName}, {"b/.", api.ErrName}} {
		x.writes("b", "34")
		x.ok(world.Act{Kind: sync, Name: "b"}, world.Act{Kind: remove, Name: "b"})
		x.does(world.Act{Kind: sync, Name: wrong.name}, world.Out{E: wrong.want})
		x.ok(world.Act{Kind: restart})
		x.lacks("b")
	}
	deeds := x.Disk().Deeds()
	for left := range 3 {
		want := api.ErrDown
		if left == 2 {
			want = api.OK
		}
		x.writes("b", "34")
		x.ok(world.Act{Kind: arm, N: left})
		x.does(world.Act{Kind: sync, Name: "b"}, world.Out{E: want})
		deeds += 1 + left
		if x.Disk().Deeds() != deeds || x.Disk().Down() != (want != api.OK) {
			t.Errorf("of %d deeds: %d deeds, down %t", left, x.Disk().Deeds(), x.Disk().Down())
		}
		x.ok(world.Act{Kind: restart})
		if left < 2 {
			x.lacks("b")
		} else {
			x.has("b", "34")
		}
	}
	// The first error counts: the file's, though the disk goes down behind it.
	x.ok(world.Act{Kind: arm, N: 1})
	x.does(world.Act{Kind: sync, Name: "none"}, world.Out{E: api.ErrMissing})
	if !x.Disk().Down() {
		t.Error("the directory was not synced")
	}
}

// TestP20_1_ArmAndRestart: neither tells an error, whatever it is handed.
func TestP20_1_ArmAndRestart(t *testing.T) {
	x := begun(t, 100)
	for _, n := range []int{-1, -1 << 63, 1<<63 - 1, 2} {
		x.does(world.Act{Kind: arm, N: n}, world.Out{})
		x.writes("a", "1")
	}
	x.writes("a", "12")
	x.does(world.Act{Kind: write, Name: "a"}, world.Out{E: api.ErrDown})
	x.does(world.Act{Kind: arm, N: -1}, world.Out{})
	for kind := write; kind <= read; kind++ {
		if kind != arm && kind != restart {
			x.does(world.Act{Kind: kind, Name: "a"}, world.Out{E: api.ErrDown})
		}
	}
	x.does(world.Act{Kind: restart, N: -5}, world.Out{})
	x.lacks("a")
	for _, r := range []struct {
		act  world.Act
		a, b string
	}{
		{world.Act{Kind: restart, N: 2}, "", ""},
		{world.Act{Kind: restart, N: 2, Tails: []int{1, 2}}, "1", "45"},
		{world.Act{Kind: restart, N: 1<<63 - 1, Tails: []int{1 << 62}}, "123", "456"},
		{world.Act{Kind: restart, N: 3, Tails: []int{-1, 3, 2}}, "", "456"},
	} {
		x := begun(t, 100)
		x.writes("a", "123")
		x.writes("b", "456")
		x.does(r.act, world.Out{})
		x.has("a", r.a)
		x.has("b", r.b)
	}
	// A disk that is up may be restarted, too; then nothing is armed any more.
	x.writes("a", "1")
	x.writes("b", "2")
	x.ok(world.Act{Kind: arm}, world.Act{Kind: restart, N: 1, Tails: []int{1}})
	x.has("a", "1")
	x.lacks("b")
	x.writes("b", "2")
}

// TestP20_1_Builds: the targets are Names, and what was run, and put, is told also beside an error.
func TestP20_1_Builds(t *testing.T) {
	const rules = reversed + "rule inc\n  command = inc $in > $out : d\n  depfile = d\nrule fail\n  command = fail > $out\n"
	x := begun(t, 1<<20)
	x.does(world.Act{Kind: build}, world.Out{E: api.ErrMissing})
	x.writes("build.ninja", "build")
	x.does(world.Act{Kind: build}, world.Out{E: api.ErrParse})
	x.writes("build.ninja", rules+"build b b2: r a\nbuild c: r b\nbuild i: inc s\nbuild z: fail\ndefault c\n")
	x.does(world.Act{Kind: build, Names: names("none")}, world.Out{E: api.ErrMissing})
	x.does(world.Act{Kind: build}, world.Out{E: api.ErrMissing})
	x.writes("a", "12")
	x.writes("s", "#include a\n")
	x.does(world.Act{Kind: build, Names: names("b2")}, world.Out{Names: names("b"), Records: 2})
	x.lacks("c")
	x.does(world.Act{Kind: build}, world.Out{Names: names("c"), Records: 1})
	x.does(world.Act{Kind: build, Names: []string{}}, world.Out{})
	x.ok(world.Act{Kind: remove, Name: "b"})
	// What was found is told by three records, and the run by one more.
	x.does(world.Act{Kind: build, Names: names("i", "c", "a", "i", "z")}, world.Out{E: api.ErrCommand, Names: names("b", "c", "i"), Records: 7})
	x.does(world.Act{Kind: build, Names: names("i", "c", "a", "i")}, world.Out{})
	x.has("i", "12")
	x.writes("a", "1")
	x.ok(world.Act{Kind: arm, N: 4})
	x.does(world.Act{Kind: build}, world.Out{E: api.ErrDown, Names: names("b"), Records: 2})
	x.does(world.Act{Kind: build}, world.Out{E: api.ErrDown})
}

// TestP20_1_Cleans: what was removed is told also beside an error.
func TestP20_1_Cleans(t *testing.T) {
	const two = reversed + "build b: r a\nbuild c: r a\n"
	x := begun(t, 1<<20)
	for _, kind := range []int{tidy, compact} {
		x.does(world.Act{Kind: kind}, world.Out{E: api.ErrMissing})
	}
	x.writes("build.ninja", two)
	x.writes("a", "12")
	x.builds("b", "c")
	x.does(world.Act{Kind: tidy}, world.Out{})
	x.ok(world.Act{Kind: compact})
	x.writes("build.ninja", reversed)
	x.ok(world.Act{Kind: arm, N: 1})
	x.does(world.Act{Kind: tidy}, world.Out{E: api.ErrDown, Names: names("b")})
	x.ok(world.Act{Kind: restart, N: 100, Tails: []int{100}})
	x.does(world.Act{Kind: tidy}, world.Out{Names: names("c")})
	x.does(world.Act{Kind: tidy}, world.Out{})
	x.has("a", "12")
	x.ok(world.Act{Kind: arm, N: 3})
	x.does(world.Act{Kind: compact}, world.Out{E: api.ErrDown})
	x.ok(world.Act{Kind: restart, N: 100, Tails: []int{100}}, world.Act{Kind: compact})
	x.writes("build.ninja", two)
	x.builds("b", "c")
	x.writes(api.RunsLog, "no log")
	for _, kind := range []int{build, tidy, compact} {
		x.does(world.Act{Kind: kind}, world.Out{E: api.ErrHeader})
	}
}

// TestP20_1_OtherFields: an act does not look at fields that its kind has not.
func TestP20_1_OtherFields(t *testing.T) {
	bare := []world.Act{
		{Kind: write, Name: "build.ninja", B: []byte(reversed + "build o: r a\n")}, {Kind: add, Name: "a", B: []byte("123")}, {Kind: cut, Name: "a", N: 2},
		{Kind: build, Names: names("o")}, {Kind: read, Name: "o"}, {Kind: sync, Name: "a"}, {Kind: tidy}, {Kind: compact}, {Kind: remove, Name: "o"},
		{Kind: arm, N: 2}, {Kind: build}, {Kind: restart, N: 1, Tails: []int{9}}, {Kind: read, Name: "a"},
	}
	var full []world.Act
	for _, a := range bare {
		more := a
		if a.Name == "" {
			more.Name = "b"
		}
		if len(a.B) == 0 {
			more.B = []byte("4")
		}
		if a.Kind != cut && a.Kind != arm && a.Kind != restart {
			more.N = 1
		}
		if a.Kind != build {
			more.Names = names("c")
		}
		if a.Kind != restart {
			more.Tails = []int{1}
		}
		full = append(full, more)
	}
	want, e := world.Run(1<<20, bare)
	got, again := world.Run(1<<20, full)
	if e != api.OK || again != api.OK || !sameOuts(got, want) || string(want[4].B) != "21" {
		t.Errorf("%v was told, %d, %d, want %v", got, e, again, want)
	}
}

// TestP20_1_WhatIsHandedInAndOut: neither is kept.
func TestP20_1_WhatIsHandedInAndOut(t *testing.T) {
	x := begun(t, 1<<20)
	b := []byte("12")
	x.ok(world.Act{Kind: write, Name: "a", B: b[:1]}, world.Act{Kind: add, Name: "a", B: b[1:]})
	if string(b) != "12" {
		t.Errorf("%q was handed in", b)
	}
	b[0], b[1] = 'x', 'y'
	x.has("a", "12")
	x.Do(world.Act{Kind: read, Name: "a"}).B[0] = 'x'
	x.has("a", "12")
	x.writes("build.ninja", reversed+"build b: r a\nbuild c: r b\n")
	targets := names("c", "b")
	ran := x.Do(world.Act{Kind: build, Names: targets}).Names
	if !slices.Equal(targets, names("c", "b")) || !slices.Equal(ran, names("b", "c")) {
		t.Errorf("%q were run for %q", ran, targets)
	}
	ran[0] = "a"
	x.writes("build.ninja", reversed)
	gone := x.Do(world.Act{Kind: tidy}).Names
	if !slices.Equal(gone, names("b", "c")) {
		t.Errorf("%q are gone", gone)
	}
	tails := []int{-1, 5}
	x.ok(world.Act{Kind: restart, N: 1, Tails: tails})
	if !slices.Equal(tails, []int{-1, 5}) {
		t.Errorf("%v was handed in", tails)
	}
	l := []world.Act{{Kind: write, Name: "a", B: []byte("1")}, {Kind: read, Name: "a"}}
	told, _ := world.Run(10, l)
	told[1].B[0] = 'x'
	if again, e := world.Run(10, l); e != api.OK || !sameOuts(again, []world.Out{{}, {B: []byte("1")}}) {
		t.Errorf("Run tells %v, %d", again, e)
	}
}

// TestP20_1_Runs: each run has a world of its own, and goes on behind an act that tells an error.
func TestP20_1_Runs(t *testing.T) {
	l := []world.Act{
		{Kind: read, Name: "a"}, {Kind: write, Name: "a", B: []byte("12")}, {Kind: 0}, {Kind: write, Name: "b", B: []byte("12")},
		{Kind: write, Name: "build.ninja"}, {Kind: build}, {Kind: arm}, {Kind: sync, Name: "a"}, {Kind: arm, N: -1}, {Kind: read, Name: "a"},
		{Kind: restart, N: 1, Tails: []int{1}}, {Kind: read, Name: "a"},
	}
	want := []world.Out{
		{E: api.ErrMissing}, {}, {E: api.ErrForm}, {E: api.ErrSpace},
		{}, {E: api.ErrSpace}, {}, {E: api.ErrDown}, {}, {E: api.ErrDown},
		{}, {B: []byte("1")},
	}
	for range 3 {
		if told, e := world.Run(3, l); e != api.OK || !sameOuts(told, want) {
			t.Errorf("Run tells %v, %d, want %v", told, e, want)
		}
	}
	for n := range l {
		if told, e := world.Run(3, l[:n]); e != api.OK || !sameOuts(told, want[:n]) {
			t.Errorf("Run tells of %d %v, %d", n, told, e)
		}
	}
}

// TestP20_1_TheDisksLimits: they hold of acts, too.
func TestP20_1_TheDisksLimits(t *testing.T) {
	x := begun(t, api.MaxQuota)
	for n := range api.MaxFiles {
		x.writes("f/"+strconv.Itoa(n), "")
	}
	x.does(world.Act{Kind: write, Name: "z"}, world.Out{E: api.ErrLong})
	x.does(world.Act{Kind: write, Name: strings.Repeat("x", api.MaxPath+1)}, world.Out{E: api.ErrName})
}
