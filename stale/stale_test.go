package stale_test

import (
	"math"
	"slices"
	"strings"
	"testing"

	"bellows/api"
	"bellows/db"
	"bellows/disk"
	"bellows/graph"
	"bellows/manifest"
	"bellows/runs"
	"bellows/stale"
)

// ownFiles are all own files there are.
var ownFiles = []string{"build.ninja", ".build_log", ".deps_log", ".build_log.new", ".deps_log.new"}

func names(all ...string) []string { return all }

func must(t *testing.T, all ...api.Errno) {
	t.Helper()
	for i, e := range all {
		if e != api.OK {
			t.Fatalf("the call %d: %d", i, e)
		}
	}
}

// tree is a disk, what is known of it, and what is to be made on it.
type tree struct {
	t *testing.T
	d *disk.Disk
	b *db.DB
	g *graph.Graph
}

// planted is a tree of these edges, with no file but the logs.
func planted(t *testing.T, edges ...manifest.Edge) *tree {
	t.Helper()
	d, e := disk.New(api.MaxQuota)
	must(t, e)
	b, e := db.Open(d)
	must(t, e)
	x := &tree{t: t, d: d, b: b}
	x.plan(edges...)
	return x
}

// plan turns what is to be made.
func (x *tree) plan(edges ...manifest.Edge) {
	x.t.Helper()
	g, e := graph.New(manifest.Manifest{Edges: edges})
	must(x.t, e)
	x.g = g
}

// reopen opens the database anew.
func (x *tree) reopen() {
	x.t.Helper()
	b, e := db.Open(x.d)
	must(x.t, e)
	x.b = b
}

// write writes files anew, each with its name as its bytes.
func (x *tree) write(all ...string) {
	x.t.Helper()
	for _, name := range all {
		must(x.t, x.d.Write(name, []byte(name)))
	}
}

// time is a file's; 0 where it is not there.
func (x *tree) time(name string) int {
	s, _ := x.d.Stat(name)
	return s.Time
}

// now is what a run of an edge would tell of one of its outputs, if it came to an end now.
func (x *tree) now(n int, out string, found ...string) runs.Run {
	edge := x.g.Edge(n)
	r := runs.Run{Out: out, Command: edge.Command, Time: x.time(out)}
	for _, name := range slices.Concat(edge.Ins, edge.Implicit) {
		r.Ins = append(r.Ins, runs.In{Name: name, Time: x.time(name)})
	}
	for _, name := range found {
		r.Found = append(r.Found, x.time(name))
	}
	return r
}

// know puts for all outputs of an edge what a run would.
func (x *tree) know(n int, found ...string) {
	x.t.Helper()
	for _, out := range x.g.Edge(n).Outs {
		must(x.t, x.b.Put(x.now(n, out, found...), found))
	}
}

func (x *tree) looks(n int, want stale.Why) {
	x.t.Helper()
	if why := stale.Look(x.d, x.b, x.g, n); why != want {
		x.t.Errorf("Look(%d) = %d, want %d (%.300q)", n, why, want, x.g.Edge(n))
	}
}

// plain is an edge of one output, o, made of a.
func plain() manifest.Edge {
	return manifest.Edge{Outs: names("o"), Ins: names("a"), Command: "cat a > o"}
}

// finding is an edge of two outputs, with needs of each kind, and a depfile.
func finding() manifest.Edge {
	return manifest.Edge{Outs: names("o", "p"), Ins: names("a", "b"), Implicit: names("c"), Order: names("w"), Command: "inc a > o p : d", Depfile: "d"}
}

// grown is a tree in which that edge is fresh; h and i were found.
func grown(t *testing.T) *tree {
	t.Helper()
	x := planted(t, finding())
	x.write("a", "b", "c", "w", "h", "i", "o", "p", "d")
	x.know(0, "h", "i")
	x.looks(0, stale.Fresh)
	return x
}

func TestP17_1_Numbers(t *testing.T) {
	for want, why := range []stale.Why{stale.Fresh, stale.Form, stale.Unknown, stale.Gone, stale.Command, stale.Inputs, stale.Found} {
		if int(why) != want {
			t.Errorf("%d is not %d", why, want)
		}
	}
}

func TestP17_1_Examples(t *testing.T) {
	x := planted(t, plain())
	x.looks(0, stale.Unknown)
	x.write("a", "o")
	x.looks(0, stale.Unknown)
	x.know(0)
	x.looks(0, stale.Fresh)
	x.write("a")
	x.looks(0, stale.Inputs)
}

// spoil turns what a run tells; a set of reasons has a bit for each.
func spoil(r runs.Run, set int) runs.Run {
	if set>>stale.Gone&1 == 1 {
		r.Time++
	}
	if set>>stale.Command&1 == 1 {
		r.Command += " "
	}
	if set>>stale.Inputs&1 == 1 {
		r.Ins[1].Time++
	}
	if set>>stale.Found&1 == 1 {
		r.Found[1]--
	}
	return r
}

// first is the one of a set that is told.
func first(set int) stale.Why {
	for why := stale.Unknown; why <= stale.Found; why++ {
		if set>>why&1 == 1 {
			return why
		}
	}
	return stale.Fresh
}

func TestP17_1_TheFirstOfTheFirstOutput(t *testing.T) {
	for sets := range 1 << 10 {
		x := planted(t, finding())
		x.write("a", "b", "c", "h", "i", "o", "p")
		want := stale.Fresh
		for i, out := range names("o", "p") {
			set := sets >> (5 * i) & 31 << stale.Unknown
			if set>>stale.Unknown&1 == 0 {
				must(t, x.b.Put(spoil(x.now(0, out, "h", "i"), set), names("h", "i")))
			}
			if want == stale.Fresh {
				want = first(set)
			}
		}
		x.looks(0, want)
		if t.Failed() {
			t.Fatalf("the sets %b", sets)
		}
	}
}

func TestP17_1_EachOutputCounts(t *testing.T) {
	outs := names("o1", "o2", "o3", "o4")
	edge := manifest.Edge{Outs: outs, Ins: names("a"), Command: "cat a > o1 o2 o3 o4"}
	for _, out := range outs {
		x := planted(t, edge)
		x.write(append(outs, "a")...)
		for _, other := range outs {
			if other != out {
				must(t, x.b.Put(x.now(0, other), nil))
			}
		}
		x.looks(0, stale.Unknown)
		must(t, x.b.Put(x.now(0, out), nil))
		x.looks(0, stale.Fresh)
		x.write(out)
		x.looks(0, stale.Gone)
		must(t, x.b.Put(x.now(0, out), nil))
		x.looks(0, stale.Fresh)
	}
}

// formed is an edge whose command is all that may be wrong; d is its depfile.
func formed(command, d string, outs ...string) *manifest.Edge {
	return &manifest.Edge{Outs: outs, Ins: names("a"), Command: command, Depfile: d}
}

// known is a tree of one edge, of which all is known, and there as it is told.
func known(t *testing.T, edge manifest.Edge) *tree {
	t.Helper()
	x := planted(t, edge)
	x.write("a", "b", "o", "p")
	x.know(0)
	return x
}

func TestP17_1_Form(t *testing.T) {
	for _, edge := range []*manifest.Edge{
		formed("", "", "o"), formed(" ", "", "o"), formed("cat", "", "o"), formed("cat a", "", "o"), formed("cat a >", "", "o"),
		formed("> o", "", "o"), formed("once > o", "", "o"), formed("once", "", "o"), formed("cut a > o", "", "o"), formed("once once cat a > o", "", "o"),
		formed("cat a > o o", "", "o"), formed("cat a > ./o", "", "o"), formed("cat a > o/", "", "o"), formed("cat a >o", "", "o"),
		// The outputs are others.
		formed("cat a > p", "", "o"), formed("cat a > o p", "", "o"), formed("cat a > o", "", "o", "p"), formed("cat a > p o", "", "o", "p"),
		formed("cat a > o p", "", "p"), formed("cat a > p", "", "o", "p"), formed("cat a > o", ""), formed("cat a > o", "", "./o"),
		formed("put > o", ""), formed("", ""), formed("put >", ""),
		// The depfile is another one, or may not be at all, or must be.
		formed("inc a > o : e", "d", "o"), formed("inc a > o : d", "", "o"), formed("inc a > o", "", "o"), formed("inc a > o", "d", "o"), formed("inc a > o :", "d", "o"),
		formed("cat a > o", "d", "o"), formed("cat a > o : d", "d", "o"), formed("inc a > o : d", "d ", "o"), formed("inc a > o : d", "./d", "o"), formed("inc a > o : d e", "d", "o"),
	} {
		x := known(t, *edge)
		x.looks(0, stale.Form)
		x.d.Arm(0)
		x.d.SyncDir()
		x.looks(0, stale.Form)
		planted(t, *edge).looks(0, stale.Form)
	}
}

func TestP17_1_FormIsNoMoreThanThat(t *testing.T) {
	for _, edge := range []*manifest.Edge{
		formed("cat a > o", "", "o"), formed("cat a > o p", "", "o", "p"), formed("cat a > p o", "", "p", "o"), formed("  once   cat a >  o ", "", "o"),
		formed("inc a > o : d", "d", "o"), formed("inc a > o p : o", "o", "o", "p"), formed("inc a > o : build.ninja", "build.ninja", "o"),
		// They fail, whatever is there.
		formed("fail > o", "", "o"), formed("rev > o", "", "o"), formed("rev a b > o", "", "o"), formed("sum > o", "", "o"), formed("cat b nowhere ../a > o", "", "o"), formed("inc a b > o : d", "d", "o"),
	} {
		known(t, *edge).looks(0, stale.Fresh)
		planted(t, *edge).looks(0, stale.Unknown)
	}
}

func TestP17_1_NoSuchEdge(t *testing.T) {
	all := []int{-1, 1, 2, math.MaxInt, math.MinInt}
	for _, n := range all {
		grown(t).looks(n, stale.Form)
	}
	for _, n := range append(all, 0) {
		planted(t).looks(n, stale.Form)
	}
}

func TestP17_1_Unknown(t *testing.T) {
	x := planted(t, plain(), manifest.Edge{Outs: names("q"), Ins: names("a"), Command: "cat a > q"})
	x.write("a", "o", "q")
	x.know(1)
	x.looks(0, stale.Unknown)
	x.looks(1, stale.Fresh)
	x.know(0)
	x.looks(0, stale.Fresh)
	must(t, x.b.Compact(names("q")))
	x.looks(0, stale.Unknown)
	x.looks(1, stale.Fresh)
	x.reopen()
	x.looks(0, stale.Unknown)
	x.looks(1, stale.Fresh)
	// A name that is near is another one.
	for _, out := range names("", "O", "o ", "./o", "oo", "p") {
		r := x.now(0, "o")
		r.Out = out
		must(t, x.b.Put(r, nil))
	}
	x.looks(0, stale.Unknown)
}

func TestP17_1_UnknownWhereTheLogsDisagree(t *testing.T) {
	edge := finding()
	edge.Outs, edge.Command = names("o"), "inc a > o : d"
	for _, kept := range []struct {
		tails []int
		want  stale.Why
	}{{[]int{0, 0}, stale.Fresh}, {[]int{0, 1000}, stale.Unknown}, {[]int{1000, 0}, stale.Unknown}, {[]int{1000, 1000}, stale.Fresh}} {
		x := planted(t, edge)
		x.write("a", "b", "c", "h", "i", "o")
		for _, name := range x.d.Names() {
			must(t, x.d.Sync(name))
		}
		x.know(0, "h")
		must(t, x.b.Sync())
		x.know(0, "h", "i")
		x.looks(0, stale.Fresh)
		// The two logs are the first ones of all files, in their order.
		x.d.Restart(disk.Keep{Tails: append(kept.tails, 0, 0, 0, 0, 0, 0)})
		x.reopen()
		x.looks(0, kept.want)
	}
}

func TestP17_1_UnknownAheadOfTheFiles(t *testing.T) {
	x := planted(t, finding())
	x.looks(0, stale.Unknown)
	x.d.Arm(0)
	x.d.SyncDir()
	x.looks(0, stale.Unknown)
}

// turnings are what may be done with a file that is there, so that it is another one then, or none. There is one with the name "spare", too.
func turnings() map[string]func(d *disk.Disk, name string) api.Errno {
	return map[string]func(*disk.Disk, string) api.Errno{
		"written as it is": func(d *disk.Disk, name string) api.Errno { b, _ := d.Read(name); return d.Write(name, b) },
		"written":          func(d *disk.Disk, name string) api.Errno { return d.Write(name, []byte("other")) },
		"nothing appended": func(d *disk.Disk, name string) api.Errno { return d.Append(name, nil) },
		"appended to":      func(d *disk.Disk, name string) api.Errno { return d.Append(name, []byte("\n")) },
		"nothing cut off":  func(d *disk.Disk, name string) api.Errno { s, _ := d.Stat(name); return d.Cut(name, s.Size) },
		"cut":              func(d *disk.Disk, name string) api.Errno { return d.Cut(name, 0) },
		"removed":          func(d *disk.Disk, name string) api.Errno { return d.Remove(name) },
		"renamed":          func(d *disk.Disk, name string) api.Errno { return d.Rename(name, "elsewhere") },
		"replaced":         func(d *disk.Disk, name string) api.Errno { return d.Rename("spare", name) },
		"removed and written": func(d *disk.Disk, name string) api.Errno {
			b, _ := d.Read(name)
			return max(d.Remove(name), d.Write(name, b))
		},
		"copied over": func(d *disk.Disk, name string) api.Errno {
			b, _ := d.Read(name)
			return max(d.Write("copy", b), d.Rename("copy", name))
		},
		"lost in part": func(d *disk.Disk, name string) api.Errno {
			e := max(d.Append(name, []byte("12")), d.SyncDir())
			d.Restart(disk.Keep{})
			return e
		},
	}
}

// leavings are what may be done with one that is sure, so that it is the same then.
func leavings() map[string]func(d *disk.Disk, name string) api.Errno {
	return map[string]func(*disk.Disk, string) api.Errno{
		"read":             func(d *disk.Disk, name string) api.Errno { _, e := d.Read(name); return e },
		"synced":           func(d *disk.Disk, name string) api.Errno { return max(d.Sync(name), d.SyncDir()) },
		"renamed onto it":  func(d *disk.Disk, name string) api.Errno { return d.Rename(name, name) },
		"renamed and back": func(d *disk.Disk, name string) api.Errno { return max(d.Rename(name, "x"), d.Rename("x", name)) },
		"cut too far":      func(d *disk.Disk, name string) api.Errno { d.Cut(name, -1); d.Cut(name, api.MaxFile); return api.OK },
		"written too long": func(d *disk.Disk, name string) api.Errno {
			d.Write(name, make([]byte, api.MaxFile+1))
			return api.OK
		},
		"removed in vain": func(d *disk.Disk, name string) api.Errno { e := d.Remove(name); d.Restart(disk.Keep{}); return e },
		"written in vain": func(d *disk.Disk, name string) api.Errno { e := d.Write(name, nil); d.Restart(disk.Keep{}); return e },
		"renamed in vain": func(d *disk.Disk, name string) api.Errno { e := d.Rename(name, "x"); d.Restart(disk.Keep{}); return e },
		"replaced in vain": func(d *disk.Disk, name string) api.Errno {
			e := d.Rename("spare", name)
			d.Restart(disk.Keep{})
			return e
		},
		"there at a restart": func(d *disk.Disk, name string) api.Errno { d.Restart(disk.Keep{}); return api.OK },
		"down for a while": func(d *disk.Disk, name string) api.Errno {
			d.Arm(0)
			d.Remove(name)
			d.Restart(disk.Keep{})
			return api.OK
		},
	}
}

// sure makes all files of a tree sure.
func (x *tree) sure() {
	x.t.Helper()
	for _, name := range x.d.Names() {
		must(x.t, x.d.Sync(name))
	}
	must(x.t, x.d.SyncDir())
}

// each does each of some deeds with each of some files, of a tree of its own, and looks at its edge, also when the database is opened anew.
func each(t *testing.T, deeds map[string]func(*disk.Disk, string) api.Errno, want stale.Why, files ...string) {
	t.Helper()
	for _, name := range files {
		for what, do := range deeds {
			x := grown(t)
			x.write("spare")
			x.sure()
			must(t, do(x.d, name))
			x.looks(0, want)
			x.reopen()
			x.looks(0, want)
			if t.Failed() {
				t.Fatalf("%s, %s", name, what)
			}
		}
	}
}

func TestP17_1_Gone(t *testing.T) {
	each(t, turnings(), stale.Gone, "o", "p")
	x := planted(t, plain())
	x.write("a")
	// No time is that of a file that is not there.
	for _, time := range []int{0, 1, x.time("a"), 1 << 61} {
		r := x.now(0, "o")
		r.Time = time
		must(t, x.b.Put(r, nil))
		x.looks(0, stale.Gone)
	}
	x.write("o")
	for _, time := range []int{0, x.time("o") - 1, x.time("o") + 1, x.time("a"), 1 << 61} {
		r := x.now(0, "o")
		r.Time = time
		must(t, x.b.Put(r, nil))
		x.looks(0, stale.Gone)
	}
	x.know(0)
	x.looks(0, stale.Fresh)
}

func TestP17_1_GoneWhereTheDiskIsDown(t *testing.T) {
	x := grown(t)
	x.sure()
	down := func() {
		t.Helper()
		x.d.Arm(0)
		x.looks(0, stale.Fresh) // it is up, till the next deed
		x.d.SyncDir()
		x.looks(0, stale.Gone)
		x.d.Restart(disk.Keep{})
		x.looks(0, stale.Fresh)
	}
	down()
	x = known(t, *formed("put > o", "", "o"))
	x.sure()
	down()
	// A disk that is down tells no time of any file, not even one that is 0.
	r := x.now(0, "o")
	r.Time = 0
	must(t, x.b.Put(r, nil))
	x.looks(0, stale.Gone)
	x.d.Arm(0)
	x.d.SyncDir()
	x.looks(0, stale.Gone)
}

func TestP17_1_Command(t *testing.T) {
	for _, command := range names("", "c", "cat a > ", "cat a > O", "cat a > oo", "cat  a > o", " cat a > o", "cat a > o ", "once cat a > o", "cat a > o\n", "rev a > o", "cat a > p", "cat b > o") {
		x := known(t, plain())
		r := x.now(0, "o")
		r.Command = command
		must(t, x.b.Put(r, nil))
		x.looks(0, stale.Command)
		x.know(0)
		x.looks(0, stale.Fresh)
	}
	// The manifest was turned.
	x := known(t, plain())
	turned := plain()
	turned.Command = "rev a > o"
	x.plan(turned)
	x.looks(0, stale.Command)
	x.plan(plain())
	x.looks(0, stale.Fresh)
}

func TestP17_1_Inputs(t *testing.T) {
	each(t, turnings(), stale.Inputs, "a", "b", "c")
	x := grown(t)
	in := func(name string) runs.In { return runs.In{Name: name, Time: x.time(name)} }
	late := func(name string) runs.In { return runs.In{Name: name, Time: x.time(name) + 1} }
	for _, ins := range [][]runs.In{
		nil, {}, {in("a")}, {in("a"), in("b")}, {in("b"), in("c")}, {in("a"), in("c")},
		{in("a"), in("b"), in("c"), in("c")}, {in("a"), in("b"), in("c"), in("w")}, {in("a"), in("a"), in("b"), in("c")},
		{in("b"), in("a"), in("c")}, {in("a"), in("c"), in("b")}, {in("c"), in("b"), in("a")}, {in("a"), in("a"), in("c")},
		{late("a"), in("b"), in("c")}, {in("a"), late("b"), in("c")}, {in("a"), in("b"), late("c")}, {in("a"), in("b"), {Name: "c"}},
		// Another name with the same time; the same times in another order.
		{{Name: "x", Time: x.time("a")}, in("b"), in("c")}, {in("a"), in("b"), {Name: "", Time: x.time("c")}}, {{Name: "b", Time: x.time("a")}, {Name: "a", Time: x.time("b")}, in("c")},
	} {
		r := x.now(0, "o", "h", "i")
		r.Ins = ins
		must(t, x.b.Put(r, names("h", "i")))
		x.looks(0, stale.Inputs)
	}
	x.know(0, "h", "i")
	x.looks(0, stale.Fresh)
}

func TestP17_1_InputsThatAreNotThere(t *testing.T) {
	for _, time := range []int{0, 1, 7} {
		x := planted(t, plain())
		x.write("o")
		r := x.now(0, "o")
		r.Ins[0].Time = time
		must(t, x.b.Put(r, nil))
		x.looks(0, stale.Inputs)
	}
}

func TestP17_1_InputsAndImplicitOnesAreOneList(t *testing.T) {
	rows := names("a", "b", "a", "c")
	edge := manifest.Edge{Outs: names("o"), Ins: rows, Command: "put > o"}
	x := planted(t, edge)
	x.write("a", "b", "c", "o", "w")
	x.know(0)
	for n := range len(rows) + 1 {
		edge.Ins, edge.Implicit = rows[:n], rows[n:]
		for _, order := range [][]string{nil, {"w"}, {"a"}, {"nowhere", "a"}} {
			edge.Order = order
			x.plan(edge)
			x.looks(0, stale.Fresh)
		}
	}
	for _, ins := range [][]string{nil, {"a"}, {"a", "b", "c", "a"}, {"a", "b", "c"}, {"a", "b", "a", "c", "w"}, {"a", "b", "b", "c"}} {
		edge.Ins, edge.Implicit, edge.Order = ins, nil, rows
		x.plan(edge)
		x.looks(0, stale.Inputs)
		edge.Ins, edge.Implicit = nil, ins
		x.plan(edge)
		x.looks(0, stale.Inputs)
	}
}

func TestP17_1_Found(t *testing.T) {
	each(t, turnings(), stale.Found, "h", "i")
	x := grown(t)
	for _, found := range [][]int{{x.time("h"), 0}, {0, x.time("i")}, {x.time("i"), x.time("h")}, {x.time("h"), x.time("i") + 1}, {x.time("h") - 1, x.time("i")}} {
		r := x.now(0, "p")
		r.Found = found
		must(t, x.b.Put(r, names("h", "i")))
		x.looks(0, stale.Found)
	}
	// In which order they were found, and how often, is nothing to it.
	for _, found := range [][]string{nil, {"i", "h"}, {"h", "h", "h"}, {"a", "w", "d", "h"}} {
		x.know(0, found...)
		x.looks(0, stale.Fresh)
	}
	// One that is not there has no time.
	x.know(0, "nowhere")
	x.looks(0, stale.Found)
	x.know(0, "h", "")
	x.looks(0, stale.Found)
}

// wide is a tree in which the edge 2 stands below 0 and, by an order-only need, below 1; 3 stands below it, and 4 has to do with none. All outputs are there, and s, free and d.
func wide(t *testing.T) *tree {
	t.Helper()
	x := planted(t,
		manifest.Edge{Outs: names("a", "a2"), Command: "put > a a2"},
		manifest.Edge{Outs: names("b"), Implicit: names("a"), Command: "put > b"},
		manifest.Edge{Outs: names("c", "c2"), Ins: names("s"), Order: names("b"), Command: "inc s > c c2 : d", Depfile: "d"},
		manifest.Edge{Outs: names("e"), Ins: names("c"), Command: "put > e"},
		manifest.Edge{Outs: names("f"), Ins: names("t"), Command: "put > f"},
	)
	x.write("s", "free", "d", "a", "a2", "b", "c", "c2", "e", "f")
	return x
}

func TestP17_1_FoundOnesThatMayBeThere(t *testing.T) {
	x := wide(t)
	for _, name := range names("s", "free", "d", "a", "a2", "b") {
		x.know(2, name)
		x.looks(2, stale.Fresh)
	}
	// They are there with the time that is told, but they may not be.
	for _, name := range names("c", "c2", "e", "f") {
		x.know(2, name)
		x.looks(2, stale.Found)
		x.know(2, "s", name, "free")
		x.looks(2, stale.Found)
	}
	// Own files that are there are nothing to it.
	x.write("build.ninja", ".build_log.new", ".deps_log.new")
	x.know(2, "s", "free")
	x.looks(2, stale.Fresh)
}

func TestP17_1_FoundOwnFiles(t *testing.T) {
	for _, name := range ownFiles {
		x := wide(t)
		x.know(2, "free")
		if name != api.RunsLog && name != api.NamesLog {
			x.write(name)
		}
		must(t, x.b.Put(x.now(2, "c", name), names(name)))
		x.write("clock")
		r := x.now(2, "c", name)
		// The logs are turned by the putting itself, now that the book has all names by one record each.
		switch name {
		case api.NamesLog:
			r.Found[0] = x.time("clock") + 1
		case api.RunsLog:
			r.Found[0] = x.time("clock") + 2
		}
		must(t, x.b.Put(r, names(name)))
		if x.time(name) != r.Found[0] {
			t.Fatalf("%s has the time %d, want %d", name, x.time(name), r.Found[0])
		}
		x.looks(2, stale.Found)
		must(t, x.b.Put(x.now(2, "c", "free"), names("free")))
		x.looks(2, stale.Fresh)
	}
}

func TestP17_1_FoundHangsOnTheManifest(t *testing.T) {
	user := manifest.Edge{Outs: names("o"), Ins: names("a"), Command: "inc a > o : d", Depfile: "d"}
	maker := manifest.Edge{Outs: names("h"), Ins: names("b"), Command: "cat b > h"}
	x := planted(t, user)
	x.write("a", "b", "h", "o")
	x.know(0, "h")
	x.looks(0, stale.Fresh)
	x.plan(user, maker)
	x.looks(0, stale.Found)
	user.Order = names("h")
	x.plan(user, maker)
	x.looks(0, stale.Fresh)
	user.Order, maker.Outs = names("g"), names("g")
	x.plan(user, maker)
	x.looks(0, stale.Fresh)
}

func TestP17_1_TimesAndNames(t *testing.T) {
	x := grown(t)
	told := func(l []string, want ...runs.In) {
		t.Helper()
		if got, e := stale.Times(x.d, l); e != api.OK || !slices.Equal(got, want) {
			t.Errorf("Times(%q) = %v, %d, want %v", l, got, e, want)
		}
	}
	in := func(name string) runs.In { return runs.In{Name: name, Time: x.time(name)} }
	told(nil)
	told(names())
	told(names("a"), in("a"))
	told(names("p", "a", "o", "a", ".build_log"), in("p"), in("a"), in("o"), in("a"), in(".build_log"))
	must(t, x.d.Append("a", nil))
	s, _ := x.d.Stat("a")
	told(names("a", "b"), runs.In{Name: "a", Time: s.Time}, in("b"))
	must(t, x.d.Rename("a", "b"))
	told(names("b"), runs.In{Name: "b", Time: s.Time})
}

func TestP17_1_TimesOfWhatIsNotThere(t *testing.T) {
	x := grown(t)
	fails := func(want api.Errno, l ...string) {
		t.Helper()
		if got, e := stale.Times(x.d, l); e != want || len(got) > 0 {
			t.Errorf("Times(%q) = %v, %d, want %d", l, got, e, want)
		}
	}
	for _, name := range names("nowhere", "", "/a", "./a", "a/", "A", strings.Repeat("a", 2000), "\x00") {
		fails(api.ErrMissing, name)
		fails(api.ErrMissing, name, "a")
		fails(api.ErrMissing, "a", name)
		fails(api.ErrMissing, "a", name, "b", name)
	}
	x.d.Arm(0)
	x.d.SyncDir()
	fails(api.ErrDown, "a")
	fails(api.ErrDown, "nowhere", "a")
	fails(api.OK)
	x.d = nil
	fails(api.ErrDown, "a")
}

func TestP17_1_NothingIsTurned(t *testing.T) {
	x := grown(t)
	x.plan(finding(), manifest.Edge{Outs: names("q"), Command: "bad"}, manifest.Edge{Outs: names("r"), Command: "put > r"})
	x.d.Arm(2)
	deeds, used, records, all := x.d.Deeds(), x.d.Used(), x.b.Records(), x.d.Names()
	l := append(make([]string, 0, 8), "a", "o")
	spare := l[:8]
	times, _ := stale.Times(x.d, l)
	for range 3 {
		for n, want := range []stale.Why{stale.Fresh, stale.Form, stale.Unknown, stale.Form} {
			x.looks(n, want)
		}
		again, e := stale.Times(x.d, l)
		if e != api.OK || !slices.Equal(times, again) {
			t.Errorf("Times: %v, %d, want %v", again, e, times)
		}
		again[0] = runs.In{Name: "x"} // it is the caller's
	}
	if x.d.Down() || x.d.Deeds() != deeds || x.d.Used() != used || x.b.Records() != records || !slices.Equal(x.d.Names(), all) {
		t.Error("something was turned")
	}
	if !slices.Equal(spare, names("a", "o", "", "", "", "", "", "")) {
		t.Errorf("the names are %q", spare)
	}
	// It is still armed.
	must(t, x.d.SyncDir(), x.d.SyncDir())
	if x.d.SyncDir() != api.ErrDown {
		t.Error("it was armed no more")
	}
}
