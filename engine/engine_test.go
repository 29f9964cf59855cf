package engine_test

import (
	"maps"
	"slices"
	"strconv"
	"strings"
	"testing"

	"bellows/api"
	"bellows/db"
	"bellows/disk"
	"bellows/engine"
	"bellows/graph"
	"bellows/manifest"
	"bellows/reclog"
	"bellows/runs"
	"bellows/stale"
)

// ownFiles are all own files there are.
var ownFiles = []string{"build.ninja", ".build_log", ".deps_log", ".build_log.new", ".deps_log.new"}

func names(all ...string) []string { return all }

func must(t *testing.T, all ...api.Errno) {
	t.Helper()
	for i, e := range all {
		if e != api.OK {
			t.Fatalf("the call %d: %d", i, e)
		}
	}
}

// content is what a file has, and since when.
type content struct {
	text string
	time int
}

// tree is a disk on which something is built.
type tree struct {
	t *testing.T
	d *disk.Disk
}

// planted is a tree with this manifest, and files of which each has its name and an end of line.
func planted(t *testing.T, text string, files ...string) *tree {
	t.Helper()
	d, e := disk.New(api.MaxQuota)
	must(t, e)
	x := &tree{t, d}
	x.write("build.ninja", text)
	for _, name := range files {
		x.write(name, name+"\n")
	}
	return x
}

func (x *tree) write(name, text string) {
	x.t.Helper()
	must(x.t, x.d.Write(name, []byte(text)))
}

// files is all that is there.
func (x *tree) files() map[string]content {
	all := map[string]content{}
	for _, name := range x.d.Names() {
		b, _ := x.d.Read(name)
		s, _ := x.d.Stat(name)
		all[name] = content{string(b), s.Time}
	}
	return all
}

// builds asks for a build that succeeds, and runs these.
func (x *tree) builds(targets []string, ran ...string) {
	x.t.Helper()
	r, e := engine.Build(x.d, targets)
	if e != api.OK || !slices.Equal(r.Ran, ran) || (r.Records == 0) != (len(ran) == 0) {
		x.t.Errorf("Build(%q) = %v, %d, want %q", targets, r, e, ran)
	}
}

// fails asks for a build that runs these, and then fails.
func (x *tree) fails(want api.Errno, targets []string, ran ...string) {
	x.t.Helper()
	r, e := engine.Build(x.d, targets)
	if e != want || !slices.Equal(r.Ran, ran) {
		x.t.Errorf("Build(%q) = %v, %d, want %q, %d", targets, r, e, ran, want)
	}
}

// has asks for files with these texts; one that is "-" is not there.
func (x *tree) has(all ...string) {
	x.t.Helper()
	for i := 0; i < len(all); i += 2 {
		text := "-"
		if b, e := x.d.Read(all[i]); e == api.OK {
			text = string(b)
		}
		if text != all[i+1] {
			x.t.Errorf("%s has %q, want %q", all[i], text, all[i+1])
		}
	}
}

func (x *tree) time(name string) int {
	s, _ := x.d.Stat(name)
	return s.Time
}

// known is what the database knows.
func (x *tree) known() *db.DB {
	x.t.Helper()
	b, e := db.Open(x.d)
	must(x.t, e)
	return b
}

// knows asks for runs of just these outputs.
func (x *tree) knows(outs ...string) {
	x.t.Helper()
	if got := x.known().Outs(); !slices.Equal(got, outs) {
		x.t.Errorf("it knows %q, want %q", got, outs)
	}
}

// sure makes all that is there sure.
func (x *tree) sure() {
	x.t.Helper()
	for _, name := range x.d.Names() {
		must(x.t, x.d.Sync(name))
	}
	must(x.t, x.d.SyncDir())
}

// same asks for files that are as they were, but for these.
func (x *tree) same(was map[string]content, but ...string) {
	x.t.Helper()
	now := x.files()
	for _, name := range but {
		delete(was, name)
		delete(now, name)
	}
	if !maps.Equal(was, now) {
		x.t.Errorf("there is %v, want %v", now, was)
	}
}

// frames is how many records both logs have.
func (x *tree) frames() int {
	n := 0
	for kind, name := range names(api.RunsLog, api.NamesLog) {
		b, _ := x.d.Read(name)
		records, _, _ := reclog.Scan(b, byte(kind+1))
		n += len(records)
	}
	return n
}

// rules has a rule of each kind: a manifest's text that begins with it has edges alone behind.
const rules = `
rule cat
  command = cat $in > $out
rule keep
  command = once cat $in > $out
rule rev
  command = rev $in > $out
rule put
  command = put $words > $out
rule inc
  command = inc $in > $out : d
  depfile = d
rule fail
  command = fail $in > $out
rule any
  command = $do
  depfile = $dep
`

// chain is three edges, the one below the other one: o and p, then m, then n; and one apart, z.
const chain = rules + "build n: rev m\nbuild m: cat o b || w\nbuild o p: inc a || w\nbuild z: put | a\n words = 1\n"

// chained is the tree of the chain; a finds h and i.
func chained(t *testing.T) *tree {
	x := planted(t, chain, "b", "h", "i", "w")
	x.write("a", "A\n#include h\n#include i\n")
	return x
}

func TestP18_1_Loads(t *testing.T) {
	x := chained(t)
	deeds, was := x.d.Deeds(), x.files()
	m, _, e := manifest.Parse(chain)
	must(t, e)
	want, e := graph.New(m)
	must(t, e)
	for range 2 {
		g, e := engine.Load(x.d)
		must(t, e)
		for n := range len(m.Edges) + 1 {
			a, b := g.Edge(n), want.Edge(n)
			if !slices.Equal(a.Outs, b.Outs) || !slices.Equal(a.Ins, b.Ins) || !slices.Equal(a.Implicit, b.Implicit) || !slices.Equal(a.Order, b.Order) || a.Command != b.Command || a.Depfile != b.Depfile {
				t.Errorf("the edge %d is %v, want %v", n, a, b)
			}
		}
		if !slices.Equal(g.Targets(), want.Targets()) {
			t.Errorf("the targets are %q, want %q", g.Targets(), want.Targets())
		}
	}
	if x.d.Deeds() != deeds {
		t.Error("loading is a deed")
	}
	x.same(was)
	// It is read anew each time.
	x.write("build.ninja", "")
	if g, e := engine.Load(x.d); e != api.OK || g == nil || len(g.Outs()) > 0 {
		t.Errorf("Load of an empty manifest: %v, %d", g, e)
	}
}

// refuses asks Load, and Build, for an error ahead of any deed.
func (x *tree) refuses(want api.Errno) {
	x.t.Helper()
	was, deeds := x.files(), x.d.Deeds()
	if g, e := engine.Load(x.d); e != want || g != nil {
		x.t.Errorf("Load = %v, %d, want %d", g, e, want)
	}
	for _, targets := range [][]string{nil, {"a"}, {"nowhere"}} {
		x.fails(want, targets)
		if r, _ := engine.Build(x.d, targets); r.Records != 0 {
			x.t.Errorf("%d records", r.Records)
		}
	}
	x.same(was)
	if x.d.Deeds() != deeds {
		x.t.Error("there were deeds")
	}
}

func TestP18_1_TheDisksError(t *testing.T) {
	x := chained(t)
	x.sure()
	x.d.Arm(0)
	x.d.SyncDir()
	x.refuses(api.ErrDown)
	x.d.Restart(disk.Keep{})
	must(t, x.d.Remove("build.ninja"))
	x.refuses(api.ErrMissing)
	x.d = nil
	x.refuses(api.ErrDown)
	x.d = &disk.Disk{}
	x.refuses(api.ErrDown)
	x.d, _ = disk.New(0)
	x.refuses(api.ErrMissing)
}

func TestP18_1_EachFault(t *testing.T) {
	edges := ""
	for n := range api.MaxEdges {
		edges += "build " + strconv.Itoa(n) + ": put\n"
	}
	for _, wrong := range []struct {
		text string
		want api.Errno
	}{
		{strings.Repeat("#", api.MaxText+1), api.ErrLong},
		{rules + edges + "build o: put\n", api.ErrLong},
		{"build", api.ErrParse}, {"build o: none a\n", api.ErrParse}, {"\x00", api.ErrParse}, {rules + "build ../o: put\n", api.ErrParse}, {rules + "build o: any\n", api.ErrParse},
		{rules + "build o: put\nbuild o: cat a\n", api.ErrTwice}, {rules + "build o ./o: put\n", api.ErrTwice},
		{rules + "build o: cat o\n", api.ErrCycle}, {rules + "build o: cat p\nbuild p: put || o\n", api.ErrCycle},
		// Of two the first one counts.
		{rules + "build .build_log: put\nbuild", api.ErrParse}, {rules + "build o o: cat o\nbuild", api.ErrParse},
		{rules + "build o o: cat o build.ninja\n", api.ErrTwice}, {rules + "build .build_log .build_log: put\n", api.ErrTwice},
		{rules + "build o: cat o build.ninja\n", api.ErrCycle}, {rules + "build .deps_log: cat .deps_log\n", api.ErrCycle},
	} {
		planted(t, wrong.text, "a").refuses(wrong.want)
	}
}

func TestP18_1_OwnFiles(t *testing.T) {
	for _, own := range ownFiles {
		for _, line := range names("build OWN: put", "build o OWN: put", "build o: put OWN", "build o: put | OWN", "build o: put || OWN", "build o: put\nbuild p: put a || a ./OWN") {
			planted(t, rules+strings.ReplaceAll(line, "OWN", own)+"\n", "a").refuses(api.ErrName)
		}
	}
	// Nothing else is one, and an edge may name one elsewhere.
	for _, line := range names("build .build_log.new.new .build_lo build.ninja.new x/build.ninja: put", "build o: any a\n do = inc a > o : .build_log\n dep = .build_log", "build o: put\n words = build.ninja") {
		x := planted(t, rules+line+"\n", "a")
		if g, e := engine.Load(x.d); e != api.OK || g == nil {
			t.Errorf("Load of %q: %d", line, e)
		}
		if _, e := engine.Build(x.d, nil); e != api.OK {
			t.Errorf("Build of %q: %d", line, e)
		}
	}
}

func TestP18_2_Examples(t *testing.T) {
	x := chained(t)
	x.builds(nil, "o", "m", "n", "z")
	x.has("o", "A\nh\ni\n", "p", "A\nh\ni\n", "m", "A\nh\ni\nb\n", "n", "\nb\ni\nh\nA", "z", "1\n", "d", "-")
	x.builds(nil)
}

func TestP18_2_TheTenExamplesOfTheWhole(t *testing.T) {
	const rev = "rule r\n  command = rev $in > $out\n"
	x := planted(t, rev+"build b: r a\nbuild c: r b\n")
	x.write("a", "12")
	x.builds(nil, "b", "c")
	x.has("c", "12")
	x.builds(nil)
	x.write("a", "12")
	x.builds(nil, "b", "c")
	must(t, x.d.Remove("b"))
	x.builds(nil, "b", "c")
	must(t, x.d.Append("c", []byte("3")))
	x.builds(nil, "c")
	x.sure()
	must(t, x.d.Append("b", []byte("3")), x.d.SyncDir())
	x.d.Restart(disk.Keep{})
	x.builds(nil, "b", "c")
	x.sure()
	x.write("a", "34")
	must(t, x.d.Sync("a"), x.d.SyncDir())
	x.d.Arm(3) // both outputs, and the first record
	x.fails(api.ErrDown, nil, "b")
	x.d.Restart(disk.Keep{Dir: 9})
	x.builds(nil, "b", "c")
	x.write("build.ninja", rev+"build b: r a\n")
	x.builds(nil)
	x.write("build.ninja", rev+"build b: r a\nbuild c: r b\n")
	x.builds(nil)
	must(t, x.known().Compact(names("b")))
	x.builds(nil, "c")
	x.has("b", "43", "c", "34")
}

func TestP18_2_OpeningFails(t *testing.T) {
	run, e := runs.Write(runs.Run{Out: "o", Command: "c"})
	must(t, e)
	frame := func(kind byte, record []byte) string {
		f, _ := reclog.Frame(record)
		return string(reclog.Head(kind)) + string(f)
	}
	for _, wrong := range []struct {
		log, text string
		want      api.Errno
	}{
		{api.RunsLog, "no log", api.ErrHeader}, {api.NamesLog, "no log", api.ErrHeader}, {api.RunsLog, string(reclog.Head(2)), api.ErrHeader},
		{api.RunsLog, frame(1, run[1:]), api.ErrForm}, {api.NamesLog, frame(2, run), api.ErrForm},
	} {
		x := chained(t)
		x.write(wrong.log, wrong.text)
		was := x.files()
		for _, targets := range [][]string{nil, {"nowhere"}} {
			x.fails(wrong.want, targets)
			if r, _ := engine.Build(x.d, targets); r.Records != 0 {
				t.Errorf("%d records", r.Records)
			}
		}
		x.same(was, api.RunsLog, api.NamesLog)
	}
	// There is room for one of the heads alone.
	d, e := disk.New(20)
	must(t, e)
	x := &tree{t, d}
	x.write("build.ninja", "#")
	x.write("a", "12345678")
	x.fails(api.ErrSpace, names("nowhere"))
	x.has(api.RunsLog, string(reclog.Head(1)), api.NamesLog, "-")
}

func TestP18_2_ThePlansError(t *testing.T) {
	for _, targets := range [][]string{{"nowhere"}, {"h"}, {""}, {"./m"}, {"m "}, {"build.ninja"}, {".build_log"}, {"d"}, {"m", "nowhere"}, {"a", "nowhere", "m"}} {
		x := chained(t)
		x.fails(api.ErrMissing, targets)
		x.has("o", "-", "m", "-")
		// The database was opened, and is sure.
		x.d.Restart(disk.Keep{})
		x.has(api.RunsLog, string(reclog.Head(1)), api.NamesLog, string(reclog.Head(2)))
	}
	x := planted(t, chain+"default m nowhere\n", "a", "b", "w")
	x.fails(api.ErrMissing, nil)
	x.builds(names("m"), "o", "m")
	x.write("build.ninja", chain+"default build.ninja\n")
	x.fails(api.ErrMissing, nil)
}

func TestP18_2_TargetsThatNoEdgeMakes(t *testing.T) {
	x := chained(t)
	for _, targets := range [][]string{{"a"}, {"b"}, {"w"}, {"a", "b", "w", "a"}} {
		x.builds(targets)
	}
	for _, name := range names("a", "b", "w") {
		x := chained(t)
		must(t, x.d.Remove(name))
		was := x.files()
		// It is told ahead of all edges, also of those that don't need it.
		for _, targets := range [][]string{{name}, {"z", name}, {name, "z"}, {"m", "n", name}} {
			x.fails(api.ErrMissing, targets)
		}
		x.same(was, api.RunsLog, api.NamesLog)
		// Nothing is known yet: what is there was put by nobody.
		x.knows()
	}
	x = planted(t, chain+"default b z\n", "a", "w")
	x.fails(api.ErrMissing, nil)
	x.has("z", "-")
	x.write("b", "")
	x.builds(nil, "z")
}

func TestP18_2_Targets(t *testing.T) {
	for _, c := range []struct {
		targets, ran []string
	}{
		{nil, names("o", "m", "n", "z")}, {[]string{}, names("o", "m", "n", "z")}, {names("n", "z"), names("o", "m", "n", "z")}, {names("z"), names("z")}, {names("z", "p"), names("o", "z")},
		{names("p"), names("o")}, {names("o", "p", "o"), names("o")}, {names("m"), names("o", "m")}, {names("z", "m", "a", "o"), names("o", "m", "z")}, {names("n"), names("o", "m", "n")},
	} {
		x := chained(t)
		x.builds(c.targets, c.ran...)
		x.builds(c.targets)
		for _, out := range names("o", "m", "n", "z") {
			if _, e := x.d.Stat(out); (e == api.OK) != slices.Contains(c.ran, out) {
				t.Errorf("%q: %s: %d", c.targets, out, e)
			}
		}
	}
	x := chained(t)
	x.write("build.ninja", chain+"default m\n")
	x.builds(nil, "o", "m")
	x.builds(names("n"), "n")
	x.builds(names("z"), "z")
}

func TestP18_2_TargetsStayAsTheyAre(t *testing.T) {
	x := chained(t)
	all := append(make([]string, 0, 8), "n", "a", "z")
	spare := all[:8]
	x.builds(all, "o", "m", "n", "z")
	if !slices.Equal(spare, names("n", "a", "z", "", "", "", "", "")) {
		t.Errorf("the targets are %q", spare)
	}
	x = planted(t, rules+"build o: put\n")
	r, e := engine.Build(x.d, nil)
	must(t, e)
	r.Ran[0] = "x" // it is the caller's
	x.builds(nil)
}

func TestP18_2_NeedsThatAreNotThere(t *testing.T) {
	const text = rules + "build first: put\nbuild o p: cat a | b || c\nbuild last: put || o\n"
	for _, name := range names("a", "b", "c") {
		x := planted(t, text, "a", "b", "c")
		must(t, x.d.Remove(name))
		x.write("o", "old")
		was := x.files()
		x.fails(api.ErrMissing, nil, "first")
		// The edge was not run, so its outputs stay, whoever wrote them.
		x.same(was, "first", api.RunsLog, api.NamesLog)
		x.knows("first")
		x.write(name, "")
		x.builds(nil, "o", "last")

		// A fresh edge is asked likewise.
		must(t, x.d.Remove(name))
		was = x.files()
		x.fails(api.ErrMissing, nil)
		x.same(was)
		x.knows("first", "last", "o", "p")
		x.builds(names("first"))
	}
	// It is told ahead of all else that is wrong of the edge, but behind what is wrong ahead.
	planted(t, rules+"build o: fail | a\n").fails(api.ErrMissing, nil)
	planted(t, rules+"build x: fail\nbuild o: put a || x\n").fails(api.ErrCommand, nil)
	planted(t, rules+"build o: put a\nbuild x: fail || o\n").fails(api.ErrMissing, nil)
	planted(t, rules+"build o: put a\nbuild x: fail\n").fails(api.ErrMissing, nil)
	planted(t, rules+"build x: fail\nbuild o: put a\n").fails(api.ErrCommand, nil)
}

// failures are edges that can't be run, where a, b and h are there; each makes o and p.
func failures() []string {
	return names(
		"build o p: fail a", "build o p: rev a b", "build o p: rev",
		"build o p: any a\n do = nothing", "build o p: any a\n do = cat a", "build o p: any a\n do = cat a > ./o p", "build o p: any a\n do = $ ",
		// What is read is not declared, or not there.
		"build o p: any a || b\n do = cat a b > o p", "build o p: any a\n do = cat a h > o p", "build o p: any a\n do = cat a none > o p", "build o p: any a\n do = cat build.ninja > o p",
		"build o p: any a\n do = cat o > o p", "build o p: inc b", "build o p: inc own", "build o p: inc self", "build o p: inc other\nbuild q: put",
		// The dish does not fit.
		"build o p: any a\n do = cat a > o", "build o p: any a\n do = cat a > o p q", "build o p: any a\n do = cat a > p o", "build o p: any a\n do = cat a > a", "build o p: any a\n do = put > build.ninja h",
		"build o p: any a\n do = inc a > o p : d", "build o p: any a\n do = inc a > o p : d\n dep = e", "build o p: any a\n do = cat a > o p\n dep = d", "build o p: any a\n do = inc a > o p\n dep = d",
	)
}

func TestP18_2_CommandsThatFail(t *testing.T) {
	for _, line := range failures() {
		for set := range 4 {
			x := planted(t, rules+"build first: cat a\n"+line+"\nbuild last: put || o first\n", "a", "h", "q", "d")
			x.write("b", "#include none\n")
			x.write("own", "#include build.ninja\n")
			x.write("self", "#include p\n")
			x.write("other", "#include q\n")
			for i, out := range names("o", "p") {
				if set>>i&1 == 1 {
					x.write(out, "old")
				}
			}
			was := x.files()
			for _, ran := range [][]string{{"first"}, nil} {
				x.fails(api.ErrCommand, names("last"), ran...)
				// The outputs are gone, as many as were there, and nothing else is turned.
				x.has("o", "-", "p", "-", "last", "-", "first", "a\n")
				x.knows("first")
			}
			x.same(was, "o", "p", "first", api.RunsLog, api.NamesLog)
			if t.Failed() {
				t.Fatalf("%s, set %d", line, set)
			}
		}
	}
}

func TestP18_2_ACommandThatFailsLaterOn(t *testing.T) {
	x := chained(t)
	x.builds(nil, "o", "m", "n", "z")
	was := x.known().Runs()
	must(t, x.d.Remove("i"))
	x.fails(api.ErrCommand, nil)
	x.has("o", "-", "p", "-", "m", "A\nh\ni\nb\n", "n", "\nb\ni\nh\nA")
	if !slices.EqualFunc(x.known().Runs(), was, runs.Same) {
		t.Error("something was put")
	}
	// What does not stand below it may be built, and what does is made once it can be again.
	x.builds(names("z"))
	x.write("i", "I\n")
	x.builds(nil, "o", "m", "n")
	x.has("n", "\nb\nI\nh\nA")
}

func TestP18_2_ADepfileThatIsNone(t *testing.T) {
	x := planted(t, rules+"build first: put\nbuild o p: inc a || first\n")
	long := strings.Repeat("x", api.MaxPath-3)
	text := ""
	for n := range 163 {
		name := long + strconv.Itoa(100+n)
		x.write(name, "")
		text += "#include " + name + "\n"
		if n == 161 {
			x.write("a", text)
			x.builds(nil, "first", "o") // 16365 bytes
		}
	}
	x.write("a", text)
	was := x.known().Runs()
	x.fails(api.ErrCommand, nil)
	x.has("o", "-", "p", "-")
	if !slices.EqualFunc(x.known().Runs(), was, runs.Same) {
		t.Error("something was put")
	}
}

func TestP18_2_OutputsThatCantBeWritten(t *testing.T) {
	const text = rules + "build first: put\nbuild o p: cat a || first\nbuild last: put || o\n"
	const quota = 4000
	for _, before := range [][]string{nil, {"o"}, {"p"}, {"o", "p"}} {
		d, e := disk.New(quota)
		must(t, e)
		x := &tree{t, d}
		x.write("build.ninja", text)
		x.write("a", strings.Repeat("a", 800))
		for _, out := range before {
			x.write(out, "old")
		}
		x.builds(names("first"), "first")
		// There is room for both but for a byte, where the old ones are in nobody's way.
		x.write("fill", strings.Repeat("f", quota-(d.Used()-3*len(before))-2*800+1))
		was := x.files()
		for range 2 {
			x.fails(api.ErrSpace, nil)
			if left := x.d.Names(); slices.Contains(left, "o") || slices.Contains(left, "p") || slices.Contains(left, "last") {
				t.Errorf("there is %q", left)
			}
			x.knows("first")
		}
		x.same(was, "o", "p")
		must(t, d.Remove("fill"))
		x.builds(nil, "o", "last")
	}
	// There is room for one file more.
	x := planted(t, text, "a")
	x.builds(names("first"), "first")
	for n := range api.MaxFiles - 1 - len(x.d.Names()) {
		x.write("f"+strconv.Itoa(n), "")
	}
	x.fails(api.ErrLong, nil)
	x.has("o", "-", "p", "-")
	x.knows("first")
	must(t, x.d.Remove("f0"))
	x.write("o", "old")
	x.fails(api.ErrLong, nil, "o") // there is none for the last one
	must(t, x.d.Remove("f1"))
	x.builds(nil, "last")
}

func TestP18_2_RunsThatCantBePut(t *testing.T) {
	// The command is too long for a record: it was done, but is never known.
	long := " words = " + strings.Repeat("w ", 2100) + "\n"
	x := planted(t, rules+"build first: put\nbuild o p: put || first\n"+long+"build last: put || o\n")
	for _, ran := range [][]string{{"first"}, nil} {
		x.fails(api.ErrLong, nil, ran...)
		x.has("o", strings.Repeat("w ", 2099)+"w\n", "p", strings.Repeat("w ", 2099)+"w\n", "last", "-")
		x.knows("first")
	}
}

// crowded is a tree of an edge that finds some names, twice each, and of no more bytes than so many free ones behind the building of another edge.
func crowded(t *testing.T, free int) *tree {
	t.Helper()
	build := func(quota int) *tree {
		d, e := disk.New(quota)
		must(t, e)
		x := &tree{t, d}
		x.write("build.ninja", rules+"build first: put\nbuild o p: inc a || first\n")
		x.write("a", "#include h\n#include i\n#include h\n")
		x.write("h", "")
		x.write("i", "")
		x.builds(names("first"), "first")
		return x
	}
	return build(build(1000).d.Used() + free)
}

func TestP18_2_NoSpaceForRecords(t *testing.T) {
	// Frames of the book: o, h, i, what was found of o; a run of o; p, what was found of p; a run of p.
	output := 1 + 4 + 8 + 4 + 4*2
	run := 8 + 3 + len("inc a > o p : d") + 2 + 8 + 8 + 4 + 3 + 8 + 4 + 8*2
	sizes := []int{1 + 3, 1 + 3, 1 + 3, output, run, 1 + 3, output, run}
	free := 0
	for records, size := range sizes {
		for _, short := range []int{0, size + 7} {
			x := crowded(t, free+short)
			r, e := engine.Build(x.d, nil)
			if e != api.ErrSpace || len(r.Ran) > 0 || r.Records != records {
				t.Errorf("with %d bytes: %v, %d, want %d records", free+short, r, e, records)
			}
			// What was written stays: it was run, but is not known.
			x.has("o", "", "p", "")
			outs := names("first", "o")
			if records < 5 {
				outs = outs[:1]
			}
			x.knows(outs...)
		}
		free += 8 + size
	}
	x := crowded(t, free)
	if r, e := engine.Build(x.d, nil); e != api.OK || !slices.Equal(r.Ran, names("o")) || r.Records != len(sizes) {
		t.Errorf("with %d bytes: %v, %d", free, r, e)
	}
	x.builds(nil)
}

func TestP18_2_TheDiskGoesDown(t *testing.T) {
	// The deeds of a first build of m are: two heads; o and p; the book's records of o, h, i and what was found of o, a run of o, the book's of p and what was found of p, a run of p; m; a run of m; and four to sync.
	const whole = 2 + 2 + 8 + 1 + 1 + 4
	for n := range whole + 1 {
		x := chained(t)
		x.d.Arm(n)
		r, e := engine.Build(x.d, names("m"))
		var ran []string
		records := min(max(n-4, 0), 8)
		if n >= 12 {
			ran = append(ran, "o")
		}
		if n >= 14 {
			ran, records = append(ran, "m"), 9
		}
		if down := n < whole; (e == api.ErrDown) != down || !down && e != api.OK || x.d.Down() != down || r.Records != records || !slices.Equal(r.Ran, ran) {
			t.Errorf("down behind %d deeds: %v, %d, want %q, %d", n, r, e, ran, records)
		}
	}
	// One that runs nothing syncs, too.
	for n := range 5 {
		x := chained(t)
		x.builds(nil, "o", "m", "n", "z")
		x.d.Arm(n)
		if r, e := engine.Build(x.d, nil); (e == api.ErrDown) != (n < 4) || len(r.Ran) > 0 || r.Records != 0 {
			t.Errorf("down behind %d deeds: %v, %d", n, r, e)
		}
	}
}

func TestP18_2_OutputsThatAreThereAloneAreRemoved(t *testing.T) {
	for n := range 8 {
		for set := range 4 {
			x := planted(t, rules+"build o p: fail a\n", "a")
			outs := 0
			for i, out := range names("o", "p") {
				if set>>i&1 == 1 {
					x.write(out, "old")
					outs++
				}
			}
			x.known()
			x.d.Arm(n)
			deeds := x.d.Deeds()
			x.fails(api.ErrCommand, nil) // whether it goes down behind it or not
			if got := x.d.Deeds() - deeds; got != min(n, outs+4) {
				t.Errorf("of %d outputs that are there, and %d deeds that may be, %d were done", outs, n, got)
			}
		}
	}
}

func TestP18_2_TheDatabaseIsSynced(t *testing.T) {
	for _, c := range []struct {
		last string
		want api.Errno
		outs []string
	}{
		{"", api.OK, names("first", "o", "p")},
		{"build last: fail || o\n", api.ErrCommand, names("first", "o", "p")},
		{"build last: put none || o\n", api.ErrMissing, names("first", "o", "p")},
		{"build last: put || o\n words = " + strings.Repeat("w ", 2100) + "\n", api.ErrLong, names("first", "o", "p")},
	} {
		x := planted(t, rules+"build first: put\nbuild o p: inc a || first\n"+c.last, "h", "i")
		x.write("a", "#include h\n#include i\n")
		r, e := engine.Build(x.d, nil)
		if e != c.want || !slices.Equal(r.Ran, names("first", "o")) || r.Records != 9 {
			t.Errorf("%q: %v, %d, want %d", c.last, r, e, c.want)
		}
		frames := x.frames()
		x.d.Restart(disk.Keep{})
		if got := x.frames(); got != frames || got != 9 {
			t.Errorf("%q: %d records are sure, of %d", c.last, got, frames)
		}
		x.knows(c.outs...)
	}
}

func TestP18_2_WhatIsPut(t *testing.T) {
	x := planted(t, rules+"build o p: any a b | c a || h w\n do = inc a > o p : d\n dep = d\nbuild h: keep b\nbuild q: cat\n", "b", "c", "w", "i", "free")
	x.write("a", "#include i\n#include h\n#include i\n#include c\n")
	x.builds(nil, "h", "o", "q")
	in := func(name string) runs.In { return runs.In{Name: name, Time: x.time(name)} }
	check := func() {
		t.Helper()
		b := x.known()
		for _, want := range []struct {
			run  runs.Run
			deps []string
		}{
			{runs.Run{Out: "o", Command: "inc a > o p : d", Ins: []runs.In{in("a"), in("b"), in("c"), in("a")}, Found: []int{x.time("i"), x.time("h"), x.time("c")}}, names("i", "h", "c")},
			{runs.Run{Out: "p", Command: "inc a > o p : d", Ins: []runs.In{in("a"), in("b"), in("c"), in("a")}, Found: []int{x.time("i"), x.time("h"), x.time("c")}}, names("i", "h", "c")},
			{runs.Run{Out: "h", Command: "once cat b > h", Ins: []runs.In{in("b")}}, nil},
			{runs.Run{Out: "q", Command: "cat  > q"}, nil},
		} {
			entry, ok := b.Look(want.run.Out)
			want.run.Time, want.run.Mark = x.time(want.run.Out), entry.Run.Mark
			if !ok || !runs.Same(entry.Run, want.run) || !slices.Equal(entry.Deps, want.deps) {
				t.Errorf("%s: %v, %t, want %v", want.run.Out, entry, ok, want)
			}
		}
	}
	check()
	x.write("b", "b\n")
	x.builds(nil, "h", "o")
	check()
	x.write("i", "")
	x.builds(nil, "o")
	check()
}

func TestP18_2_Records(t *testing.T) {
	x := chained(t)
	for _, want := range []int{8 + 3, 0} {
		if r, e := engine.Build(x.d, nil); e != api.OK || r.Records != want {
			t.Errorf("%v, %d, want %d records", r, e, want)
		}
	}
	// The book has all names but one now.
	x.write("a", "#include h\n#include w\n")
	if r, e := engine.Build(x.d, nil); e != api.OK || r.Records != 1+2*2+3 {
		t.Errorf("%v, %d", r, e)
	}
	if frames := x.frames(); frames != 8+3+1+2*2+3 {
		t.Errorf("%d records", frames)
	}
}

func TestP18_2_Once(t *testing.T) {
	for _, once := range names("", "once ") {
		x := planted(t, rules+"build o p: any a\n do = "+once+"cat a > o p\nbuild m: cat o\nbuild n: cat p\n", "a")
		x.builds(nil, "o", "m", "n")
		o, p := x.time("o"), x.time("p")
		stays := func(which string, was int) {
			t.Helper()
			if stayed := x.time(which) == was; stayed != (once != "") {
				t.Errorf("%scat: %s stayed: %t", once, which, stayed)
			}
		}
		x.write("a", "a\n")
		if once == "" {
			x.builds(nil, "o", "m", "n")
		} else {
			x.builds(nil, "o")
		}
		stays("o", o)
		stays("p", p)
		// It is told of each output by itself.
		o = x.time("o")
		x.write("p", "other")
		if once == "" {
			x.builds(nil, "o", "m", "n")
		} else {
			x.builds(nil, "o", "n")
		}
		stays("o", o)
		x.has("p", "a\n", "n", "a\n")
		// It is another one with a byte more, or less, or turned.
		for _, text := range names("a", "a\nb", "A\n", "") {
			o, p = x.time("o"), x.time("p")
			x.write("a", text)
			x.builds(nil, "o", "m", "n")
			if x.time("o") == o || x.time("p") == p {
				t.Errorf("%scat: an output stayed", once)
			}
			x.has("o", text, "p", text, "m", text, "n", text)
		}
		// An empty one that is not there is written.
		must(t, x.d.Remove("o"))
		x.builds(names("p"), "o")
		x.has("o", "", "p", "")
	}
}

func TestP18_2_WhatIsThereForAnEdge(t *testing.T) {
	const edges = "build up: cat a\nbuild mid: cat a | up\nbuild o: inc s || mid\nbuild below: cat o\nbuild apart: cat a\n"
	whole := rules + edges
	for name, want := range map[string]string{
		"a": "a\n", "free": "free\n", "dead": "dead\n", "up": "a\n", "mid": "a\n", "d": "d\n",
		"o": "", "below": "", "apart": "", "none": "", "build.ninja": "", ".build_log": "", ".deps_log": "", ".deps_log.new": "", "../a": "",
	} {
		x := planted(t, whole+"build dead: cat a\n", "a", "free", "d")
		x.write("s", "")
		x.builds(nil, "up", "mid", "o", "below", "apart", "dead")
		// What an edge made that is there no more is a file as any other one.
		x.write("dead", "dead\n")
		x.write("build.ninja", whole)
		x.write("s", "#include "+name+"\n")
		if want == "" {
			x.fails(api.ErrCommand, names("o"))
			x.has("o", "-")
			continue
		}
		x.builds(names("o"), "o")
		x.has("o", want)
		x.builds(names("o"))
		if name == "up" || name == "mid" {
			continue
		}
		// It was found: what is turned of it counts, and when another edge makes it, it may not be there.
		must(t, x.d.Append(name, nil))
		if name == "a" {
			x.builds(names("o"), "up", "mid", "o")
			continue
		}
		x.builds(names("o"), "o")
		x.write("build.ninja", whole+"build "+name+": cat a\n")
		x.fails(api.ErrCommand, names("o"))
		x.has("o", "-", name, name+"\n")
	}
}

func TestP18_2_NothingElseIsWritten(t *testing.T) {
	x := chained(t)
	was := x.files()
	outs := names("o", "p", "m", "n", "z")
	for range 2 {
		x.builds(nil, "o", "m", "n", "z")
		x.same(maps.Clone(was), append(outs, api.RunsLog, api.NamesLog)...)
		if want := len(was) + len(outs) + 2; len(x.files()) != want {
			t.Errorf("there are %q", x.d.Names())
		}
		for _, out := range outs {
			must(t, x.d.Remove(out))
		}
	}
}

func TestP18_2_FreshOnesAreLeftAlone(t *testing.T) {
	x := chained(t)
	x.builds(nil, "o", "m", "n", "z")
	was := x.files()
	for range 3 {
		x.builds(nil)
		x.same(maps.Clone(was))
	}
	// What was told of an edge by someone else is enough.
	x.write("o", "other")
	b := x.known()
	entry, _ := b.Look("o")
	entry.Run.Time = x.time("o")
	must(t, b.Put(entry.Run, entry.Deps))
	g, e := engine.Load(x.d)
	must(t, e)
	if why := stale.Look(x.d, b, g, 2); why != stale.Fresh {
		t.Fatal(why)
	}
	x.builds(names("o"))
	x.builds(nil, "m", "n")
	x.has("o", "other", "m", "otherb\n")
}

func TestP18_3_WhatIsTurnedIsRunAlone(t *testing.T) {
	for _, c := range []struct {
		what string
		ran  []string
	}{
		{"a", names("o", "m", "n", "z")}, {"b", names("m", "n")}, {"h", names("o", "m", "n")}, {"i", names("o", "m", "n")}, {"w", nil},
		{"o", names("o", "m", "n")}, {"p", names("o", "m", "n")}, {"m", names("m", "n")}, {"n", names("n")}, {"z", names("z")}, {"d", nil}, {"new", nil},
	} {
		for _, text := range names("", "text", "#include i\n") {
			x := chained(t)
			x.builds(nil, "o", "m", "n", "z")
			x.write(c.what, text)
			if c.what == "i" && text != "" && text != "text" {
				x.fails(api.ErrCommand, nil) // it puts itself in
				continue
			}
			x.builds(nil, c.ran...)
			x.builds(nil)
		}
	}
	x := chained(t)
	x.builds(nil, "o", "m", "n", "z")
	x.write("build.ninja", strings.Replace(chain, "build m: cat", "build m: keep", 1))
	x.builds(nil, "m") // its bytes are the same
	x.write("build.ninja", strings.Replace(chain, "rev m", "rev b", 1))
	x.builds(nil, "n", "m") // what is ahead of what has turned, too
}

func TestP18_3_FullLogs(t *testing.T) {
	x := planted(t, rules+"build o p: inc a\nbuild n: rev o\n", "h")
	x.write("a", "#include h\n")
	for n := range 2000 {
		x.write("h", strconv.Itoa(n))
		r, e := engine.Build(x.d, nil)
		if e == api.OK {
			x.has("o", strconv.Itoa(n), "p", strconv.Itoa(n))
			x.builds(nil)
			continue
		}
		if e != api.ErrLong || n < 100 || len(r.Ran) > 1 {
			t.Fatalf("build %d: %v, %d", n, r, e)
		}
		if _, e := engine.Build(x.d, nil); e != api.ErrLong {
			t.Errorf("again: %d", e)
		}
		break
	}
	must(t, x.known().Compact(names("n", "o", "p")))
	if _, e := engine.Build(x.d, nil); e != api.OK {
		t.Errorf("compacted: %d", e)
	}
	x.builds(nil)
}
