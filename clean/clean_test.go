package clean_test

import (
	"maps"
	"slices"
	"strings"
	"testing"

	"bellows/api"
	"bellows/clean"
	"bellows/db"
	"bellows/disk"
	"bellows/engine"
	"bellows/reclog"
	"bellows/runs"
)

func names(all ...string) []string { return all }

func must(t *testing.T, all ...api.Errno) {
	t.Helper()
	for i, e := range all {
		if e != api.OK {
			t.Fatalf("the call %d: %d", i, e)
		}
	}
}

// content is what a file has, and since when.
type content struct {
	text string
	time int
}

// tree is a disk on which something was built.
type tree struct {
	t *testing.T
	d *disk.Disk
}

// planted is a tree with this manifest, and files of which each has its name and an end of line.
func planted(t *testing.T, text string, files ...string) *tree {
	t.Helper()
	d, e := disk.New(api.MaxQuota)
	must(t, e)
	x := &tree{t, d}
	x.write("build.ninja", text)
	for _, name := range files {
		x.write(name, name+"\n")
	}
	return x
}

func (x *tree) write(name, text string) {
	x.t.Helper()
	must(x.t, x.d.Write(name, []byte(text)))
}

// builds asks for a build that succeeds, and runs these.
func (x *tree) builds(ran ...string) {
	x.t.Helper()
	r, e := engine.Build(x.d, nil)
	if e != api.OK || !slices.Equal(r.Ran, ran) {
		x.t.Errorf("Build = %v, %d, want %q", r, e, ran)
	}
}

// files is all that is there, but for the logs.
func (x *tree) files() map[string]content {
	all := map[string]content{}
	for _, name := range x.d.Names() {
		b, _ := x.d.Read(name)
		s, _ := x.d.Stat(name)
		all[name] = content{string(b), s.Time}
	}
	for _, log := range names(api.RunsLog, api.NamesLog, api.RunsLog+".new", api.NamesLog+".new") {
		delete(all, log)
	}
	return all
}

// known is what the database knows.
func (x *tree) known() *db.DB {
	x.t.Helper()
	b, e := db.Open(x.d)
	must(x.t, e)
	return b
}

// knows asks for runs of just these outputs.
func (x *tree) knows(outs ...string) {
	x.t.Helper()
	if got := x.known().Outs(); !slices.Equal(got, outs) {
		x.t.Errorf("it knows %q, want %q", got, outs)
	}
}

// sure makes all that is there sure.
func (x *tree) sure() {
	x.t.Helper()
	for _, name := range x.d.Names() {
		must(x.t, x.d.Sync(name))
	}
	must(x.t, x.d.SyncDir())
}

// dead asks for these dead outputs.
func (x *tree) dead(want ...string) {
	x.t.Helper()
	if got, e := clean.Dead(x.d); e != api.OK || !slices.Equal(got, want) {
		x.t.Errorf("Dead = %q, %d, want %q", got, e, want)
	}
}

// cleans asks for a cleaning that removes these, and nothing else.
func (x *tree) cleans(want ...string) {
	x.t.Helper()
	was := x.files()
	if got, e := clean.Clean(x.d); e != api.OK || !slices.Equal(got, want) {
		x.t.Errorf("Clean = %q, %d, want %q", got, e, want)
	}
	for _, name := range want {
		delete(was, name)
	}
	x.has(was)
}

// has asks for just these files, beside the logs.
func (x *tree) has(want map[string]content) {
	x.t.Helper()
	if now := x.files(); !maps.Equal(now, want) {
		x.t.Errorf("there is %v, want %v", now, want)
	}
}

// compacts asks for a compacting that succeeds, and turns no file.
func (x *tree) compacts() {
	x.t.Helper()
	was := x.files()
	must(x.t, clean.Compact(x.d))
	x.has(was)
}

const rules = `
rule put
  command = put 1 > $out
rule cat
  command = cat $in > $out
rule inc
  command = inc $in > $out : d
  depfile = d
rule fail
  command = fail > $out
`

// all is edges of each kind: two outputs, found names, one below another.
const all = rules + "build c: put\nbuild a b: put\nbuild i: inc s\nbuild e/f: cat i c\nbuild z: put\n"

// built is a tree in which all was built.
func built(t *testing.T) *tree {
	t.Helper()
	x := planted(t, all, "h", "mine")
	x.write("s", "#include h\n")
	x.builds("c", "a", "i", "e/f", "z")
	return x
}

func TestP19_1_Examples(t *testing.T) {
	x := planted(t, rules+"build o: put\n")
	x.builds("o")
	x.cleans()
	x.write("build.ninja", rules)
	x.dead("o")
	x.cleans("o")
}

func TestP19_1_ExamplesOfTheWhole(t *testing.T) {
	const b = "rule r\n command = rev $in > $out\nbuild b: r a\n"
	x := planted(t, b+"build c: r b\n", "a")
	x.builds("b", "c")
	x.write("build.ninja", b)
	x.dead("c")
	x.cleans("c")
	x.knows("b", "c")
	x.compacts()
	x.knows("b")
	x.write("build.ninja", b+"build c: r b\n")
	x.builds("c")
}

func TestP19_1_DeadOnes(t *testing.T) {
	for _, turned := range []struct {
		edges string
		dead  []string
	}{
		{"build c: put\nbuild a b: put\nbuild i: inc s\nbuild e/f: cat i c\nbuild z: put\n", nil},
		{"", names("a", "b", "c", "e/f", "i", "z")},
		// An edge that makes some of them, in another way, too.
		{"build a: put\nbuild z c: fail\n", names("b", "e/f", "i")},
		{"build b new: cat mine\n", names("a", "c", "e/f", "i", "z")},
		// A name with another one's beginning is another one.
		{"build e: put\nbuild ./zz/../z: put\n", names("a", "b", "c", "e/f", "i")},
		// Who needs a file does not make it.
		{"build new: cat z | c || a\nbuild o: cat mine\n", names("a", "b", "c", "e/f", "i", "z")},
		{"build o: inc i\ndefault i\n", names("a", "b", "c", "e/f", "i", "z")},
	} {
		x := built(t)
		x.write("build.ninja", rules+turned.edges)
		x.dead(turned.dead...)
		x.dead(turned.dead...)
		x.cleans(turned.dead...)
		// What is known is no matter of what is there.
		x.dead(turned.dead...)
		x.cleans()
		x.knows("a", "b", "c", "e/f", "i", "z")
	}
}

func TestP19_1_FilesThatAreNotKnownStay(t *testing.T) {
	x := planted(t, rules+"build n: put\n", "o", "p", "mine", "d")
	x.cleans()
	x.builds("n")
	// It was read, needed, found, or could not be made; but no run was put of it.
	x.write("s", "#include mine\n")
	x.write("build.ninja", rules+"build q: inc s || o p\nbuild r: fail\n")
	if _, e := engine.Build(x.d, nil); e != api.ErrCommand {
		t.Errorf("Build: %d", e)
	}
	x.write("r", "mine")
	x.write("build.ninja", rules)
	x.cleans("n", "q")
}

func TestP19_1_ThoseThatAreThere(t *testing.T) {
	x := built(t)
	must(t, x.d.Remove("a"), x.d.Rename("z", "y"))
	// One that somebody wrote in the place of the output is removed, too.
	x.write("c", "mine")
	x.write("build.ninja", rules+"build i: inc s\n")
	x.dead("a", "b", "c", "e/f", "z")
	x.cleans("b", "c", "e/f")
	x.write("z", "")
	x.dead("a", "b", "c", "e/f", "z")
	x.cleans("z")
}

// knownTree is a tree whose database was told runs of these, by no build.
func knownTree(t *testing.T, outs ...string) *tree {
	x := planted(t, rules, "mine")
	b := x.known()
	for _, out := range outs {
		must(t, b.Put(runs.Run{Out: out, Command: "put 1 > " + out, Time: 1, Found: []int{1}}, names("mine")))
	}
	must(t, b.Sync())
	return x
}

func TestP19_1_OwnFilesAreNeverDead(t *testing.T) {
	own := names(".build_log", ".build_log.new", ".deps_log", ".deps_log.new", "build.ninja")
	x := knownTree(t, append(own, "build.ninja.new", "x/build.ninja", ".build_logs")...)
	x.knows(".build_log", ".build_log.new", ".build_logs", ".deps_log", ".deps_log.new", "build.ninja", "build.ninja.new", "x/build.ninja")
	for _, name := range names("build.ninja.new", "x/build.ninja", ".build_logs") {
		x.write(name, "")
	}
	x.dead(".build_logs", "build.ninja.new", "x/build.ninja")
	x.cleans(".build_logs", "build.ninja.new", "x/build.ninja")
	for _, name := range names("build.ninja", ".build_log", ".deps_log") {
		if _, e := x.d.Stat(name); e != api.OK {
			t.Errorf("%s is gone", name)
		}
	}
	// No edge makes an own file, so a compacting keeps none.
	x.compacts()
	x.knows()
}

func TestP19_1_ARunWithoutAnEntry(t *testing.T) {
	x := built(t)
	x.write(api.NamesLog, string(reclog.Head(2)))
	if _, ok := x.known().Look("i"); ok {
		t.Error("there is an entry")
	}
	x.write("build.ninja", rules)
	x.dead("a", "b", "c", "e/f", "i", "z")
	x.cleans("a", "b", "c", "e/f", "i", "z")
	// And one that is told in the log of what was found alone is not known.
	x = built(t)
	x.write(api.RunsLog, "")
	x.write("build.ninja", rules)
	x.dead()
	x.cleans()
}

// refuses asks all three for an error.
func (x *tree) refuses(want api.Errno) {
	x.t.Helper()
	was := x.files()
	if got, e := clean.Dead(x.d); e != want || got != nil {
		x.t.Errorf("Dead = %q, %d, want %d", got, e, want)
	}
	if got, e := clean.Clean(x.d); e != want || got != nil {
		x.t.Errorf("Clean = %q, %d, want %d", got, e, want)
	}
	if e := clean.Compact(x.d); e != want {
		x.t.Errorf("Compact = %d, want %d", e, want)
	}
	x.has(was)
}

func TestP19_1_LoadingFails(t *testing.T) {
	for _, wrong := range []struct {
		text string
		want api.Errno
	}{
		{strings.Repeat("#", api.MaxText+1), api.ErrLong}, {"build", api.ErrParse}, {rules + "build o: none\n", api.ErrParse},
		{rules + "build o: put\nbuild o: put\n", api.ErrTwice}, {rules + "build o: cat o\n", api.ErrCycle},
		{rules + "build .build_log: put\n", api.ErrName}, {rules + "build o: put || build.ninja\n", api.ErrName},
	} {
		x := built(t)
		x.write("build.ninja", wrong.text)
		deeds := x.d.Deeds()
		x.refuses(wrong.want)
		// It is told ahead of what is wrong with the database.
		x.write(api.RunsLog, "no log")
		x.write(api.NamesLog+".new", "")
		x.refuses(wrong.want)
		if x.d.Deeds() != deeds+2 {
			t.Error("there were deeds")
		}
	}
	x := built(t)
	must(t, x.d.Remove("build.ninja"))
	x.refuses(api.ErrMissing)
	x.d.Arm(0)
	x.d.SyncDir()
	x.refuses(api.ErrDown)
	x.d = nil
	x.refuses(api.ErrDown)
	x.d = &disk.Disk{}
	x.refuses(api.ErrDown)
	x.d, _ = disk.New(0)
	x.refuses(api.ErrMissing)
}

func TestP19_1_OpeningFails(t *testing.T) {
	run, e := runs.Write(runs.Run{Out: "mine", Command: "c"})
	must(t, e)
	frame := func(kind byte, record []byte) string {
		f, _ := reclog.Frame(record)
		return string(reclog.Head(kind)) + string(f)
	}
	for _, wrong := range []struct {
		log, text string
		want      api.Errno
	}{
		{api.RunsLog, "no log", api.ErrHeader}, {api.NamesLog, "no log", api.ErrHeader}, {api.RunsLog, string(reclog.Head(2)), api.ErrHeader},
		{api.RunsLog, frame(1, run[1:]), api.ErrForm}, {api.NamesLog, frame(2, run), api.ErrForm},
	} {
		x := built(t)
		x.write("build.ninja", rules)
		x.write(wrong.log, wrong.text)
		x.refuses(wrong.want)
	}
	// There is room for one of the heads alone.
	d, e := disk.New(20)
	must(t, e)
	x := &tree{t, d}
	x.write("build.ninja", "#")
	x.write("a", "12345678")
	x.refuses(api.ErrSpace)
	// To write a head is a deed.
	for _, ask := range []func(d *disk.Disk) api.Errno{
		func(d *disk.Disk) api.Errno { _, e := clean.Dead(d); return e },
		func(d *disk.Disk) api.Errno { _, e := clean.Clean(d); return e },
		clean.Compact,
	} {
		x = planted(t, rules)
		x.d.Arm(1)
		if e := ask(x.d); e != api.ErrDown {
			t.Errorf("the disk goes down by opening: %d", e)
		}
	}
}

// TestP19_1_EachDeed: a cleaning is told what it removed, also where the disk goes down within it.
func TestP19_1_EachDeed(t *testing.T) {
	there := names("a", "c", "e/f", "z")
	for left := range 6 {
		x := built(t)
		must(t, x.d.Remove("b"))
		x.write("build.ninja", rules+"build i: inc s\n")
		x.sure()
		deeds := x.d.Deeds()
		x.d.Arm(left)
		got, e := clean.Clean(x.d)
		want, removed := api.ErrDown, there[:min(left, 4)]
		if left == 5 {
			want = api.OK
		}
		if e != want || !slices.Equal(got, removed) || x.d.Deeds() != deeds+left || x.d.Down() != (want == api.ErrDown) {
			t.Errorf("of %d deeds: Clean = %q, %d, want %q, %d", left, got, e, removed, want)
		}
		// Just the last deed makes the others sure.
		x.d.Restart(disk.Keep{})
		for _, name := range there {
			if _, e := x.d.Stat(name); (e == api.OK) == (want == api.OK) {
				t.Errorf("of %d deeds: %s: %d", left, name, e)
			}
		}
	}
}

// TestP19_1_NothingToRemove: the directory is synced, all the same: a removal by somebody else is sure then, too.
func TestP19_1_NothingToRemove(t *testing.T) {
	for _, text := range names(all, rules) {
		x := built(t)
		x.write("build.ninja", text)
		x.sure()
		for _, name := range names("a", "b", "c", "e/f", "i", "z") {
			must(t, x.d.Remove(name))
		}
		deeds := x.d.Deeds()
		x.cleans()
		if x.d.Deeds() != deeds+1 {
			t.Errorf("%d deeds", x.d.Deeds()-deeds)
		}
		was := x.files()
		x.d.Restart(disk.Keep{})
		x.has(was)
	}
}

func TestP19_1_DeadTurnsNothing(t *testing.T) {
	x := built(t)
	x.write("build.ninja", rules)
	was, deeds := x.files(), x.d.Deeds()
	x.dead("a", "b", "c", "e/f", "i", "z")
	x.has(was)
	if x.d.Deeds() != deeds {
		t.Error("there were deeds")
	}
	// What is told is new each time.
	l, _ := clean.Dead(x.d)
	l[0] = "mine"
	x.dead("a", "b", "c", "e/f", "i", "z")
	// Where no log is, both are written.
	x = planted(t, rules, "a")
	x.dead()
	for _, log := range names(api.RunsLog, api.NamesLog) {
		if _, e := x.d.Stat(log); e != api.OK {
			t.Errorf("%s: %d", log, e)
		}
	}
}

// told is what the database tells of live outputs, and how many records tell it.
func (x *tree) told() (map[string]db.Entry, []int) {
	x.t.Helper()
	b := x.known()
	entries := map[string]db.Entry{}
	for _, out := range b.Outs() {
		if entry, ok := b.Look(out); ok {
			entries[out] = entry
		}
	}
	var frames []int
	for kind, name := range names(api.RunsLog, api.NamesLog) {
		log, _ := x.d.Read(name)
		records, _, _ := reclog.Scan(log, byte(kind+1))
		frames = append(frames, len(records))
	}
	return entries, frames
}

// sameEntries: is the same told?
func sameEntries(a, b map[string]db.Entry) bool {
	return maps.EqualFunc(a, b, func(a, b db.Entry) bool { return runs.Same(a.Run, b.Run) && slices.Equal(a.Deps, b.Deps) })
}

func TestP19_2_Compacts(t *testing.T) {
	for _, turned := range []struct {
		edges  string
		live   []string
		frames []int
	}{
		{"build c: put\nbuild a b: put\nbuild i: inc s\nbuild e/f: cat i c\nbuild z: put\n", names("a", "b", "c", "e/f", "i", "z"), []int{6, 3}},
		{"", nil, []int{0, 0}},
		{"build b new: fail\nbuild e/f i: cat a\n", names("b", "e/f", "i"), []int{3, 3}},
		{"build z: cat i c\n", names("z"), []int{1, 0}},
	} {
		x := built(t)
		// Each run but one was put twice, so that a log has more than what is told.
		for _, name := range names("a", "b", "c", "i", "z") {
			must(t, x.d.Remove(name))
		}
		x.builds("c", "a", "i", "e/f", "z")
		entries, _ := x.told()
		x.write("build.ninja", rules+turned.edges)
		x.compacts()
		x.knows(turned.live...)
		now, frames := x.told()
		maps.DeleteFunc(entries, func(out string, _ db.Entry) bool { return !slices.Contains(turned.live, out) })
		if !sameEntries(now, entries) || !slices.Equal(frames, turned.frames) {
			t.Errorf("of %q: %v, %v, want %v, %v", turned.edges, now, frames, entries, turned.frames)
		}
		x.dead()
		// It is sure.
		x.d.Restart(disk.Keep{Dir: 0})
		x.knows(turned.live...)
	}
}

func TestP19_2_ARunWithoutAnEntryIsKept(t *testing.T) {
	x := built(t)
	x.write(api.NamesLog, "")
	x.compacts()
	x.knows("a", "b", "c", "e/f", "i", "z")
}

func TestP19_2_CompactingFails(t *testing.T) {
	// There is no room for a spare file beside all others.
	x := built(t)
	text, room := rules, 0
	for _, name := range x.d.Names() {
		s, _ := x.d.Stat(name)
		room += s.Size
	}
	for _, spare := range []int{0, 7, 8} {
		d, e := disk.New(room - len(all) + len(text) + spare)
		must(t, e)
		narrow := &tree{t, d}
		for _, name := range x.d.Names() {
			b, _ := x.d.Read(name)
			if name == "build.ninja" {
				b = []byte(text)
			}
			must(t, d.Write(name, b))
		}
		was, want := narrow.files(), api.ErrSpace
		if spare == 8 {
			want = api.OK
		}
		if e := clean.Compact(d); e != want {
			t.Errorf("Compact = %d, want %d", e, want)
		}
		narrow.has(was)
	}
	// Each log is written, synced, renamed, and the directory synced.
	for left := range 9 {
		x := built(t)
		x.write("build.ninja", rules)
		x.d.Arm(left)
		want := api.ErrDown
		if left == 8 {
			want = api.OK
		}
		if e := clean.Compact(x.d); e != want || x.d.Down() != (want == api.ErrDown) {
			t.Errorf("of %d deeds: Compact = %d, want %d", left, e, want)
		}
	}
}
