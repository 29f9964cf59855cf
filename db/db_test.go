package db_test

import (
	"encoding/binary"
	"fmt"
	"hash/crc32"
	"math"
	"reflect"
	"slices"
	"strings"
	"testing"

	"bellows/api"
	"bellows/db"
	"bellows/disk"
	"bellows/names"
	"bellows/runs"
)

const (
	runsLog  = ".build_log"
	namesLog = ".deps_log"
)

// fresh is an empty disk with a quota that may be.
func fresh(t *testing.T, quota int) *disk.Disk {
	t.Helper()
	d, e := disk.New(quota)
	if e != api.OK {
		t.Fatalf("New(%d): %d", quota, e)
	}
	return d
}

// must checks that calls answered no error.
func must(t *testing.T, errors ...api.Errno) {
	t.Helper()
	for i, e := range errors {
		if e != api.OK {
			t.Fatalf("call %d: error %d", i, e)
		}
	}
}

// log is a log's file with these records, by other means than the program's.
func log(kind byte, records ...string) string {
	all := "BLW1" + string([]byte{kind, 0, 0, 0})
	for _, r := range records {
		frame := binary.LittleEndian.AppendUint32(nil, uint32(len(r)))
		frame = binary.LittleEndian.AppendUint32(frame, crc32.ChecksumIEEE([]byte(r)))
		all += string(frame) + r
	}
	return all
}

// ofName is the record of a name.
func ofName(name string) string {
	return string(binary.LittleEndian.AppendUint16([]byte{1}, uint16(len(name)))) + name
}

// ofOutput is the record of what was found of an output.
func ofOutput(out, time int, numbers ...int) string {
	b := binary.LittleEndian.AppendUint32([]byte{2}, uint32(out))
	b = binary.LittleEndian.AppendUint64(b, uint64(time))
	b = binary.LittleEndian.AppendUint32(b, uint32(len(numbers)))
	for _, n := range numbers {
		b = binary.LittleEndian.AppendUint32(b, uint32(n))
	}
	return string(b)
}

// ofRun is a run's record.
func ofRun(r runs.Run) string {
	b, e := runs.Write(r)
	if e != api.OK {
		panic(fmt.Sprintf("%v is no run: %d", r, e))
	}
	return string(b)
}

// plain is a run without anything found.
func plain(out string, time int) runs.Run {
	return runs.Run{Out: out, Command: "c " + out, Time: time, Ins: []runs.In{{Name: "in", Time: 1}}}
}

// finding is a run with found ones.
func finding(out string, mark int, found ...int) runs.Run {
	r := plain(out, 50)
	r.Mark, r.Found = mark, found
	return r
}

// write writes files: each name is followed by the file's bytes.
func write(t *testing.T, d *disk.Disk, files ...string) {
	t.Helper()
	for i := 0; i < len(files); i += 2 {
		must(t, d.Write(files[i], []byte(files[i+1])))
	}
}

// holds checks what a disk's files are: each name is followed by the file's bytes.
func holds(t *testing.T, d *disk.Disk, want ...string) {
	t.Helper()
	var got []string
	for _, name := range d.Names() {
		b, _ := d.Read(name)
		got = append(got, name, string(b))
	}
	if !slices.Equal(got, want) {
		t.Errorf("files are %.600q, want %.600q", got, want)
	}
}

// holdsLogs checks what the two logs are, to the last byte, and that there is no other file.
func holdsLogs(t *testing.T, d *disk.Disk, ofRuns, ofNames []string) {
	t.Helper()
	holds(t, d, runsLog, log(1, ofRuns...), namesLog, log(2, ofNames...))
}

// open opens a database that must be right.
func open(t *testing.T, d *disk.Disk) *db.DB {
	t.Helper()
	b, e := db.Open(d)
	if e != api.OK || b == nil || b.Records() != 0 {
		t.Fatalf("Open: %v, %d, %d records", b, e, b.Records())
	}
	return b
}

// refuses checks that a database is not opened.
func refuses(t *testing.T, d *disk.Disk, want api.Errno) {
	t.Helper()
	if b, e := db.Open(d); e != want || b != nil {
		t.Errorf("Open: %v, %d, want error %d", b, e, want)
	}
}

// knowsRuns checks all runs that a database knows: those alone, in this order.
func knowsRuns(t *testing.T, b *db.DB, want ...runs.Run) {
	t.Helper()
	if got := b.Runs(); !slices.EqualFunc(got, want, runs.Same) {
		t.Errorf("Runs: %v, want %v", got, want)
	}
	var outs []string
	for _, r := range want {
		outs = append(outs, r.Out)
	}
	if got := b.Outs(); !slices.Equal(got, outs) {
		t.Errorf("Outs: %q, want %q", got, outs)
	}
}

// knowsDeps checks all that a database tells of what was found: that alone, in this order.
func knowsDeps(t *testing.T, b *db.DB, want ...names.Dep) {
	t.Helper()
	if got := b.Deps(); !slices.EqualFunc(got, want, sameDep) {
		t.Errorf("Deps: %v, want %v", got, want)
	}
}

func sameDep(x, y names.Dep) bool {
	return x.Out == y.Out && x.Time == y.Time && slices.Equal(x.Deps, y.Deps)
}

func dep(out string, time int, deps ...string) names.Dep {
	return names.Dep{Out: out, Time: time, Deps: deps}
}

// hasEntry checks an output's entry.
func hasEntry(t *testing.T, b *db.DB, r runs.Run, deps ...string) {
	t.Helper()
	if x, ok := b.Look(r.Out); !ok || !runs.Same(x.Run, r) || !slices.Equal(x.Deps, deps) {
		t.Errorf("Look(%q): %v, %t, want %v and %q", r.Out, x, ok, r, deps)
	}
}

// hasNone checks that an output has no entry.
func hasNone(t *testing.T, b *db.DB, outs ...string) {
	t.Helper()
	for _, out := range outs {
		if x, ok := b.Look(out); ok || !reflect.DeepEqual(x, db.Entry{}) {
			t.Errorf("Look(%q): %v, %t", out, x, ok)
		}
	}
}

// appends checks how many records a call appends, and that it answers this error.
func appends(t *testing.T, b *db.DB, records int, want api.Errno, call func() api.Errno) {
	t.Helper()
	was := b.Records()
	if e := call(); e != want || b.Records()-was != records {
		t.Errorf("error %d and %d records, want %d and %d", e, b.Records()-was, want, records)
	}
}

// state is all that a database tells.
func state(b *db.DB) string {
	s := fmt.Sprintf("%q %v %v %d", b.Outs(), b.Runs(), b.Deps(), b.Records())
	for _, out := range b.Outs() {
		x, ok := b.Look(out)
		s += fmt.Sprintf("; %v %t", x, ok)
	}
	return s
}

func TestP8_1_OpenOfNothing(t *testing.T) {
	d := fresh(t, 1000)
	b := open(t, d)
	holdsLogs(t, d, nil, nil)
	knowsRuns(t, b)
	knowsDeps(t, b)
	hasNone(t, b, "", "o")
	// The log of runs is opened first.
	for i, name := range []string{runsLog, namesLog} {
		if s, e := d.Stat(name); e != api.OK || s.Time != i+1 {
			t.Errorf("%s: %v, %d", name, s, e)
		}
	}
	was := d.Deeds()
	open(t, d)
	if d.Deeds() != was {
		t.Errorf("to open it once more takes %d deeds", d.Deeds()-was)
	}
}

func TestP8_1_OpenLoads(t *testing.T) {
	d := fresh(t, 10000)
	first, last := finding("o", 7, 3, 4), finding("o", 9, 5)
	ofRuns := []string{ofRun(plain("z", 8)), ofRun(first), ofRun(plain("", 6)), ofRun(last)}
	ofNames := []string{ofName("o"), ofName("h"), ofName("i"), ofOutput(0, 7, 1, 2), ofOutput(2, 4), ofOutput(0, 9, 2), ofName("j")}
	write(t, d, "other", "x", runsLog, log(1, ofRuns...)+"torn", runsLog+".new", "1", namesLog, log(2, ofNames...)+"\x01", namesLog+".new", "2")
	b := open(t, d)
	knowsRuns(t, b, plain("", 6), last, plain("z", 8))
	knowsDeps(t, b, dep("i", 4), dep("o", 9, "i"))
	hasEntry(t, b, last, "i")
	hasEntry(t, b, plain("z", 8))
	hasEntry(t, b, plain("", 6))
	hasNone(t, b, "i", "h", "j")
	holds(t, d, runsLog, log(1, ofRuns...), namesLog, log(2, ofNames...), "other", "x")
}

func TestP8_1_ErrForm(t *testing.T) {
	run, name := ofRun(plain("o", 5)), ofName("o")
	late := plain("o", math.MaxInt)
	for _, x := range []struct{ ofRuns, ofNames []string }{
		{ofRuns: []string{""}},
		{ofRuns: []string{run, run[1:]}},
		{ofRuns: []string{run + "\x00", run}},
		{ofRuns: []string{strings.Replace(run, "c o", "c p", 1)}},
		{ofRuns: []string{ofRun(late)}},
		{ofRuns: []string{name}, ofNames: []string{name}},
		{ofNames: []string{""}},
		{ofNames: []string{run}},
		{ofNames: []string{name, name}},
		{ofNames: []string{ofOutput(0, 5), name}},
		{ofNames: []string{name, ofOutput(0, 5, 1), ofName("h")}},
		{ofNames: []string{name, ofOutput(0, 1<<62)}},
		{ofNames: []string{name, ofOutput(0, 5) + "\x00"}},
	} {
		d := fresh(t, 10000)
		write(t, d, runsLog, log(1, x.ofRuns...), namesLog, log(2, x.ofNames...))
		was := d.Deeds()
		refuses(t, d, api.ErrForm)
		holdsLogs(t, d, x.ofRuns, x.ofNames)
		if d.Deeds() != was {
			t.Errorf("%q: %d deeds", x, d.Deeds()-was)
		}
	}
}

func TestP8_1_FirstError(t *testing.T) {
	bad := log(1, "no run")
	// Another log's head is told of the one log, and the other one is not looked at.
	d := fresh(t, 1000)
	write(t, d, runsLog, log(2))
	refuses(t, d, api.ErrHeader)
	holds(t, d, runsLog, log(2))
	// It is told of the other one, too, ahead of a record that is no run.
	d = fresh(t, 1000)
	write(t, d, runsLog, bad, namesLog, log(1))
	refuses(t, d, api.ErrHeader)
	holds(t, d, runsLog, bad, namesLog, log(1))
	// So is what the disk has to say.
	d = fresh(t, len(bad)+7)
	write(t, d, runsLog, bad)
	refuses(t, d, api.ErrSpace)
	holds(t, d, runsLog, bad)
	// Both are opened ahead of looking at the records.
	d = fresh(t, 1000)
	write(t, d, runsLog, bad+"torn")
	refuses(t, d, api.ErrForm)
	holds(t, d, runsLog, bad, namesLog, log(2))
}

func TestP8_1_DiskErrors(t *testing.T) {
	d := fresh(t, 15)
	refuses(t, d, api.ErrSpace)
	holds(t, d, runsLog, log(1))
	d = fresh(t, 1000)
	for i := range api.MaxFiles - 1 {
		write(t, d, fmt.Sprint("f", i), "")
	}
	refuses(t, d, api.ErrLong)
	if _, e := d.Stat(runsLog); e != api.OK {
		t.Errorf("the log of runs: %d", e)
	}
	for armed := range 2 {
		d = fresh(t, 1000)
		d.Arm(armed)
		refuses(t, d, api.ErrDown)
		if d.Deeds() != armed {
			t.Errorf("%d deeds, want %d", d.Deeds(), armed)
		}
	}
	refuses(t, d, api.ErrDown)
	refuses(t, nil, api.ErrDown)
}

func TestP8_2_PutWithoutNames(t *testing.T) {
	d := fresh(t, 10000)
	b := open(t, d)
	r := plain("o", 5)
	// Whatever mark it is handed in with, it has none.
	for i, mark := range []int{0, 5, -1, 1 << 62, math.MinInt} {
		put := r
		put.Time, put.Mark = i, mark
		appends(t, b, 1, api.OK, func() api.Errno { return b.Put(put, nil) })
		put.Mark = 0
		knowsRuns(t, b, put)
		hasEntry(t, b, put)
	}
	must(t, b.Put(runs.Run{}, []string{}))
	if b.Records() != 6 {
		t.Errorf("%d records", b.Records())
	}
	var records []string
	for i := range 5 {
		r.Time = i
		records = append(records, ofRun(r))
	}
	holdsLogs(t, d, append(records, ofRun(runs.Run{})), nil)
	knowsRuns(t, b, runs.Run{}, r)
	knowsDeps(t, b)
	knowsRuns(t, open(t, d), runs.Run{}, r)
}

func TestP8_2_PutWithNames(t *testing.T) {
	d := fresh(t, 10000)
	b := open(t, d)
	// The log of names has the time 2; each record gives it the next one.
	appends(t, b, 5, api.OK, func() api.Errno { return b.Put(finding("o", 99, 7, 8), []string{"h", "i"}) })
	o := finding("o", 2, 7, 8)
	hasEntry(t, b, o, "h", "i")
	// That was three names, and what was found; the run's record took a time, too.
	appends(t, b, 4, api.OK, func() api.Errno { return b.Put(finding("p", -1, 0, 9, 9), []string{"j", "i", "i"}) })
	p := finding("p", 6, 0, 9, 9)
	hasEntry(t, b, p, "j", "i", "i")
	hasEntry(t, b, o, "h", "i")
	appends(t, b, 2, api.OK, func() api.Errno { return b.Put(finding("o", 2, 1), []string{"o"}) })
	again := finding("o", 10, 1)
	hasEntry(t, b, again, "o")
	knowsRuns(t, b, again, p)
	knowsDeps(t, b, dep("o", 10, "o"), dep("p", 6, "j", "i", "i"))
	holdsLogs(t, d, []string{ofRun(o), ofRun(p), ofRun(again)}, []string{
		ofName("o"), ofName("h"), ofName("i"), ofOutput(0, 2, 1, 2),
		ofName("p"), ofName("j"), ofOutput(3, 6, 4, 2, 2), ofOutput(0, 10, 0),
	})
	anew := open(t, d)
	hasEntry(t, anew, again, "o")
	hasEntry(t, anew, p, "j", "i", "i")
}

func TestP8_2_NoNamesAnyMore(t *testing.T) {
	b := open(t, fresh(t, 10000))
	must(t, b.Put(finding("o", 0, 3), []string{"h"}), b.Put(plain("o", 9), nil))
	// The book goes on telling what was found once; of the entry that is no part.
	hasEntry(t, b, plain("o", 9))
	knowsDeps(t, b, dep("o", 2, "h"))
}

func TestP8_2_PutErrorsOfTheRun(t *testing.T) {
	d := fresh(t, 100000)
	b := open(t, d)
	must(t, b.Put(finding("o", 0, 3), []string{"h"}))
	was, deeds := state(b), d.Deeds()
	wrong := func(want api.Errno, r runs.Run, deps ...string) {
		t.Helper()
		appends(t, b, 0, want, func() api.Errno { return b.Put(r, deps) })
		if state(b) != was || d.Deeds() != deeds {
			t.Errorf("%v turns the database, or takes a deed", r)
		}
	}
	early := func(n int) runs.Run { return runs.Run{Out: "o", Time: n} }
	long := strings.Repeat("c", 4096)
	all := func() {
		t.Helper()
		wrong(api.ErrArg, plain("o", 6), "h")
		wrong(api.ErrArg, finding("o", 2, 6, 7), "h")
		wrong(api.ErrArg, finding("o", 2, 6))
		wrong(api.ErrArg, early(-1))
		wrong(api.ErrArg, early(math.MinInt))
		wrong(api.ErrArg, finding("o", 2, -1), "h")
		wrong(api.ErrArg, runs.Run{Out: "o", Ins: []runs.In{{Name: "in", Time: -1}}})
		// Not as many names as times is told ahead of a run that is too long.
		wrong(api.ErrArg, runs.Run{Out: "o", Command: long}, "h")
		wrong(api.ErrLong, runs.Run{Out: "o", Command: long})
		wrong(api.ErrLong, runs.Run{Out: "o", Command: long, Mark: -1, Found: []int{1}}, "h")
		wrong(api.ErrLong, runs.Run{Out: strings.Repeat("o", 1<<16)})
	}
	all()
	// All that is told ahead of what the disk has to say: that the log is missing, and that it is down.
	must(t, d.Remove(namesLog))
	deeds = d.Deeds()
	all()
	wrong(api.ErrMissing, finding("o", 2, 6), "h")
	d.Arm(0)
	d.SyncDir()
	all()
	wrong(api.ErrDown, finding("o", 2, 6), "h")
	wrong(api.ErrDown, plain("o", 6))
}

// fullest is a run that has as many bytes as a record may have, with its found times; one more byte of its command is too much.
func fullest(out string, found int) runs.Run {
	r := runs.Run{Out: out, Found: slices.Repeat([]int{1}, found)}
	r.Command = strings.Repeat("c", api.MaxRecord-len(ofRun(r)))
	return r
}

func TestP8_2_PutOfTheFullest(t *testing.T) {
	d := fresh(t, 100000)
	b := open(t, d)
	for _, found := range []int{0, 1, 300} {
		r := fullest("o", found)
		deps := make([]string, found)
		for i := range deps {
			deps[i] = fmt.Sprint("h", i)
		}
		must(t, b.Put(r, deps))
		x, ok := b.Look("o")
		if !ok || x.Run.Command != r.Command || !slices.Equal(x.Deps, deps) {
			t.Errorf("%d found ones: %t", found, ok)
		}
		if x, ok = open(t, d).Look("o"); !ok || x.Run.Command != r.Command || !slices.Equal(x.Deps, deps) {
			t.Errorf("%d found ones, opened anew: %t", found, ok)
		}
		r.Command += "c"
		appends(t, b, 0, api.ErrLong, func() api.Errno { return b.Put(r, deps) })
	}
}

func TestP8_2_PutErrorsOfThePlan(t *testing.T) {
	d := fresh(t, 100000)
	b := open(t, d)
	long := strings.Repeat("h", 4001)
	wrong := func(want api.Errno, r runs.Run, deps ...string) {
		t.Helper()
		was := state(b)
		appends(t, b, 0, want, func() api.Errno { return b.Put(r, deps) })
		if state(b) != was {
			t.Errorf("%.100v turns the database", r)
		}
		holdsLogs(t, d, []string{ofRun(finding("o", 2, 3))}, []string{ofName("o"), ofName(long[1:]), ofOutput(0, 2, 1)})
	}
	must(t, b.Put(finding("o", 0, 3), []string{long[1:]}))
	wrong(api.ErrLong, finding("o", 0, 3), long)
	wrong(api.ErrLong, finding("o", 0, 3, 4), "h", long)
	wrong(api.ErrLong, runs.Run{Out: long, Found: []int{3}}, "h")
	// Without names nothing is planned: only the log's bound holds of the output.
	must(t, b.Put(runs.Run{Out: long}, nil))
	// What the disk has to say of the mark is told ahead of the plan.
	must(t, d.Remove(namesLog))
	appends(t, b, 0, api.ErrMissing, func() api.Errno { return b.Put(finding("o", 0, 3), []string{long}) })
	appends(t, b, 1, api.OK, func() api.Errno { return b.Put(plain("o", 3), nil) })
}

// putsOver checks a putting that ends with an error behind so many of the book's records, none of the run's, and what it leaves.
func putsOver(t *testing.T, d *disk.Disk, b *db.DB, records int, want api.Errno) {
	t.Helper()
	r, deps := finding("o", 0, 6, 7), []string{"i", "j"}
	known := b.Runs()
	was := log(2, ofName("o"), ofName("h"), ofOutput(0, 2, 1))
	appends(t, b, records, want, func() api.Errno { return b.Put(r, deps) })
	knowsRuns(t, b, known...)
	told := []string{ofName("i"), ofName("j"), ofOutput(0, 5, 2, 3)}[:records]
	if got, e := d.Read(namesLog); e == api.OK && string(got) != was+log(2, told...)[8:] {
		t.Errorf("%d records: the log of names is %q", records, got)
	}
	found := dep("o", 2, "h")
	if records == 3 {
		found = dep("o", 5, "i", "j")
	}
	knowsDeps(t, b, found)
	if records == 3 {
		// The book tells another mark than the run that is known.
		hasNone(t, b, "o")
	} else {
		hasEntry(t, b, finding("o", 2, 3), "h")
	}
}

// goesOn checks that what is put behind an error is numbered as the log has it.
func goesOn(t *testing.T, d *disk.Disk, b *db.DB) {
	t.Helper()
	s, _ := d.Stat(namesLog)
	must(t, b.Put(finding("o", 0, 8, 9), []string{"j", "i"}), b.Put(plain("p", 4), nil))
	hasEntry(t, b, finding("o", s.Time, 8, 9), "j", "i")
	anew := open(t, d)
	hasEntry(t, anew, finding("o", s.Time, 8, 9), "j", "i")
	knowsRuns(t, anew, b.Runs()...)
	knowsDeps(t, anew, b.Deps()...)
}

func TestP8_2_PutWithoutSpace(t *testing.T) {
	const room = 1000
	first := finding("o", 0, 3)
	whole := len(log(2, ofName("i"), ofName("j"), ofOutput(0, 5, 2, 3))) - 8 + len(log(1, ofRun(finding("o", 5, 6, 7)))) - 8
	met := map[int]int{}
	for short := 1; short <= whole; short++ {
		d := fresh(t, room)
		b := open(t, d)
		must(t, b.Put(first, []string{"h"}))
		must(t, d.Write("filler", make([]byte, room-d.Used()-whole+short)))
		fits, left := 0, whole-short
		for _, r := range []string{ofName("i"), ofName("j"), ofOutput(0, 5, 2, 3)} {
			if left -= len(r) + 8; left < 0 {
				break
			}
			fits++
		}
		met[fits]++
		putsOver(t, d, b, fits, api.ErrSpace)
		must(t, d.Remove("filler"))
		goesOn(t, d, b)
		if t.Failed() {
			t.Fatalf("%d bytes are short", short)
		}
	}
	if len(met) != 4 {
		t.Errorf("met %v", met)
	}
}

func TestP8_2_PutGoesDown(t *testing.T) {
	for deeds := range 4 {
		d := fresh(t, 1000)
		b := open(t, d)
		must(t, b.Put(finding("o", 0, 3), []string{"h"}), b.Sync())
		d.Arm(deeds)
		putsOver(t, d, b, deeds, api.ErrDown)
		d.Restart(disk.Keep{Tails: []int{1000}})
		goesOn(t, d, open(t, d))
	}
	d := fresh(t, 1000)
	b := open(t, d)
	d.Arm(5)
	must(t, b.Put(finding("o", 0, 3, 4), []string{"h", "i"}))
	if d.Down() {
		t.Error("a putting of five records takes more deeds")
	}
}

func TestP8_2_PutIntoFullLogs(t *testing.T) {
	d := fresh(t, 1<<20)
	b := open(t, d)
	must(t, b.Put(finding("o", 0, 3), []string{"h"}))
	fill := func(name string, left int) {
		s, _ := d.Stat(name)
		must(t, d.Append(name, make([]byte, api.MaxFile-s.Size-left)))
	}
	fill(namesLog, len(log(2, ofName("i")))-8)
	appends(t, b, 1, api.ErrLong, func() api.Errno { return b.Put(finding("o", 0, 3, 4), []string{"i", "j"}) })
	appends(t, b, 0, api.ErrLong, func() api.Errno { return b.Put(finding("o", 0, 3), []string{"h"}) })
	hasEntry(t, b, finding("o", 2, 3), "h")
	fill(runsLog, 10)
	appends(t, b, 0, api.ErrLong, func() api.Errno { return b.Put(plain("o", 4), nil) })
	// Compacting helps.
	must(t, b.Compact([]string{"o"}))
	appends(t, b, 4, api.OK, func() api.Errno { return b.Put(finding("o", 0, 3, 4), []string{"i", "j"}) })
	knowsRuns(t, open(t, d), b.Runs()...)
}

func TestP8_2_Look(t *testing.T) {
	ofNames := []string{ofName("o"), ofName("h"), ofName("i"), ofName("p"), ofName("q"), ofName("n"), ofName("none"), ofOutput(0, 7, 1, 2), ofOutput(3, 7, 1, 2), ofOutput(4, 7, 1, 2), ofOutput(5, 0, 1), ofOutput(6, 7)}
	ofRuns := []runs.Run{
		finding("o", 7, 3, 4),    // as the book tells
		finding("p", 6, 3, 4),    // another mark
		finding("q", 7, 3),       // another count
		finding("h", 7, 3, 4),    // a name of which nothing was found
		finding("x", 7, 3, 4),    // no name of the book
		finding("n", 0, 3),       // the mark nought is a mark, too
		finding("none", 7, 3),    // found ones, and the book tells of none
		finding("i", 7),          // none found, and the book tells nothing
		{Out: "", Command: "no"}, // the least that a run may be
	}
	var records []string
	for _, r := range ofRuns {
		records = append(records, ofRun(r))
	}
	d := fresh(t, 10000)
	write(t, d, runsLog, log(1, records...), namesLog, log(2, ofNames...))
	b := open(t, d)
	hasEntry(t, b, ofRuns[0], "h", "i")
	hasEntry(t, b, ofRuns[5], "h")
	hasEntry(t, b, ofRuns[7])
	hasEntry(t, b, ofRuns[8])
	hasNone(t, b, "p", "q", "h", "x", "none", "unknown")
	if got, want := b.Outs(), []string{"", "h", "i", "n", "none", "o", "p", "q", "x"}; !slices.Equal(got, want) {
		t.Errorf("Outs: %q, want %q", got, want)
	}
	knowsDeps(t, b, dep("n", 0, "h"), dep("none", 7), dep("o", 7, "h", "i"), dep("p", 7, "h", "i"), dep("q", 7, "h", "i"))
}

func TestP8_2_NothingIsKeptAndAllIsNew(t *testing.T) {
	d := fresh(t, 10000)
	b := open(t, d)
	ins, found, deps := []runs.In{{Name: "in", Time: 1}, {Name: "spare"}}, []int{3, 4, 5}, []string{"h", "i", "spare"}
	r := runs.Run{Out: "o", Command: "c", Time: 5, Mark: 77, Ins: ins[:1], Found: found[:2]}
	must(t, b.Put(r, deps[:2]), b.Put(plain("p", 6), nil))
	if r.Mark != 77 || ins[0].Name != "in" || ins[1].Name != "spare" || !slices.Equal(found, []int{3, 4, 5}) || !slices.Equal(deps, []string{"h", "i", "spare"}) {
		t.Errorf("what was handed in is turned: %v %v %v %v", r, ins, found, deps)
	}
	was := state(b)
	clear(ins)
	clear(found)
	clear(deps)
	spoil := func(r runs.Run) {
		clear(r.Ins[:cap(r.Ins)])
		clear(r.Found[:cap(r.Found)])
	}
	live := []string{"o", "p"}
	for range 2 {
		if state(b) != was {
			t.Fatalf("it knows %s, want %s", state(b), was)
		}
		x, _ := b.Look("o")
		spoil(x.Run)
		clear(x.Deps[:cap(x.Deps)])
		x, _ = b.Look("p")
		spoil(x.Run)
		spoil(b.Runs()[0])
		clear(b.Runs())
		clear(b.Outs())
		clear(b.Deps()[0].Deps)
		clear(b.Deps())
		if state(b) != was {
			t.Fatalf("what was handed out turns it: %s, want %s", state(b), was)
		}
		must(t, b.Compact(live))
		clear(live)
		live = []string{"o", "p"}
	}
}

func TestP8_2_Sync(t *testing.T) {
	for _, x := range []struct {
		gone         string
		deeds        int
		e            api.Errno
		runs, founds bool // which log is sure then
	}{
		{deeds: 4, e: api.OK, runs: true, founds: true},
		{gone: namesLog, deeds: 1, e: api.ErrMissing},
		{gone: runsLog, deeds: 3, e: api.ErrMissing, founds: true},
	} {
		d := fresh(t, 1000)
		b := open(t, d)
		must(t, b.Sync(), b.Put(finding("o", 0, 3), []string{"h"}))
		if x.gone != "" {
			must(t, d.Remove(x.gone))
		}
		was := d.Deeds()
		appends(t, b, 0, x.e, b.Sync)
		if d.Deeds()-was != x.deeds {
			t.Errorf("without %q: %d deeds, want %d", x.gone, d.Deeds()-was, x.deeds)
		}
		d.Restart(disk.Keep{Dir: 0})
		for name, sure := range map[string]bool{runsLog: x.runs, namesLog: x.founds} {
			if s, e := d.Stat(name); name != x.gone && (e != api.OK || sure != (s.Size > 8)) {
				t.Errorf("without %q: %s has %v, %d", x.gone, name, s, e)
			}
		}
	}
	// The log of what was found is sure first.
	for deeds := range 5 {
		d := fresh(t, 1000)
		b := open(t, d)
		must(t, b.Put(finding("o", 0, 3), []string{"h"}))
		d.Arm(deeds)
		want := api.ErrDown
		if deeds == 4 {
			want = api.OK
		}
		appends(t, b, 0, want, b.Sync)
		d.Restart(disk.Keep{Dir: 2})
		b = open(t, d)
		if len(b.Deps()) != min(deeds, 1) || len(b.Runs()) != deeds/3 {
			t.Errorf("%d deeds: %v, %v", deeds, b.Deps(), b.Runs())
		}
	}
}

func TestP8_2_OfNone(t *testing.T) {
	for _, b := range []*db.DB{nil, {}} {
		for _, e := range []api.Errno{
			b.Put(plain("o", 5), nil), b.Put(finding("o", 0, 3), []string{"h"}), b.Put(runs.Run{}, nil),
			b.Sync(), b.Compact(nil), b.Compact([]string{"o"}),
		} {
			if e != api.ErrDown {
				t.Errorf("%v: error %d", b, e)
			}
		}
		knowsRuns(t, b)
		knowsDeps(t, b)
		hasNone(t, b, "", "o")
		if b.Records() != 0 {
			t.Errorf("%d records", b.Records())
		}
	}
	var none *db.DB
	if e := none.Put(runs.Run{Time: -1}, []string{"h"}); e != api.ErrDown {
		t.Errorf("of nil: error %d", e)
	}
}

// The marks of the puttings of four.
const (
	markZ = 1
	markA = 5
)

// four is a database of four outputs, two of them with found ones, and one more that the book alone tells of.
func four(t *testing.T, d *disk.Disk) *db.DB {
	t.Helper()
	write(t, d, namesLog, log(2, ofName("gone"), ofName("h"), ofOutput(0, 9, 1)))
	b := open(t, d)
	must(t,
		b.Put(finding("z", 0, 3, 4), []string{"i", "h"}), b.Put(plain("b", 5), nil),
		b.Put(plain("m", 6), nil), b.Put(finding("a", 0, 5), []string{"z"}), b.Put(plain("b", 7), nil),
	)
	return b
}

func TestP8_3_Compact(t *testing.T) {
	z, a := finding("z", markZ, 3, 4), finding("a", markA, 5)
	ofA := []string{ofName("a"), ofName("z"), ofOutput(0, markA, 1)}
	ofZ := []string{ofName("i"), ofName("h"), ofOutput(1, markZ, 2, 3)}
	ofGone := []string{ofName("gone"), ofName("h"), ofOutput(2, 9, 3)}
	for _, x := range []struct {
		live    []string
		runs    []runs.Run
		ofNames []string
		deps    []names.Dep
	}{
		{},
		{live: []string{"unknown", "h"}},
		{live: []string{"m", "b"}, runs: []runs.Run{plain("b", 7), plain("m", 6)}},
		{live: []string{"m", "a", "m"}, runs: []runs.Run{a, plain("m", 6)}, ofNames: ofA, deps: []names.Dep{dep("a", markA, "z")}},
		{live: []string{"z", "m", "b", "a"}, runs: []runs.Run{a, plain("b", 7), plain("m", 6), z}, ofNames: slices.Concat(ofA, ofZ), deps: []names.Dep{dep("a", markA, "z"), dep("z", markZ, "i", "h")}},
		{live: []string{"gone", "a"}, runs: []runs.Run{a}, ofNames: slices.Concat(ofA, ofGone), deps: []names.Dep{dep("a", markA, "z"), dep("gone", 9, "h")}},
	} {
		d := fresh(t, 10000)
		b := four(t, d)
		was, live := d.Deeds(), slices.Clone(x.live)
		appends(t, b, 0, api.OK, func() api.Errno { return b.Compact(live) })
		if d.Deeds()-was != 8 || !slices.Equal(live, x.live) {
			t.Errorf("%q: %d deeds", live, d.Deeds()-was)
		}
		var records []string
		for _, r := range x.runs {
			records = append(records, ofRun(r))
		}
		check := func(b *db.DB) {
			t.Helper()
			knowsRuns(t, b, x.runs...)
			knowsDeps(t, b, x.deps...)
			for _, r := range x.runs {
				switch r.Out {
				case "a":
					hasEntry(t, b, a, "z")
				case "z":
					hasEntry(t, b, z, "i", "h")
				default:
					hasEntry(t, b, r)
				}
			}
		}
		check(b)
		holdsLogs(t, d, records, x.ofNames)
		// It is sure at once.
		d.Restart(disk.Keep{})
		holdsLogs(t, d, records, x.ofNames)
		check(open(t, d))
		if t.Failed() {
			t.Fatalf("live: %q", x.live)
		}
	}
}

func TestP8_3_PutBehindIt(t *testing.T) {
	d := fresh(t, 10000)
	b := four(t, d)
	must(t, b.Compact([]string{"a", "m"}))
	s, _ := d.Stat(namesLog)
	must(t, b.Put(finding("z", 0, 8, 9), []string{"h", "a"}), b.Put(plain("b", 8), nil))
	// Names are numbered anew; the mark is that of the log that was written anew.
	z := finding("z", s.Time, 8, 9)
	a := finding("a", markA, 5)
	holdsLogs(t, d, []string{ofRun(a), ofRun(plain("m", 6)), ofRun(z), ofRun(plain("b", 8))}, []string{ofName("a"), ofName("z"), ofOutput(0, markA, 1), ofName("h"), ofOutput(1, s.Time, 2, 0)})
	for _, x := range []*db.DB{b, open(t, d)} {
		knowsRuns(t, x, a, plain("b", 8), plain("m", 6), z)
		hasEntry(t, x, z, "h", "a")
		hasEntry(t, x, a, "z")
	}
}

func TestP8_3_WithoutSpace(t *testing.T) {
	met := map[int]int{}
	for room := range 250 {
		d := fresh(t, 10000)
		b := four(t, d)
		must(t, d.Write("filler", make([]byte, 10000-d.Used()-room)))
		were, found := b.Runs(), b.Deps()
		live := []string{"a", "b", "m"}
		kept := runs.Fold([]runs.Run{finding("a", markA, 5), plain("b", 7), plain("m", 6)})
		was := d.Deeds()
		e := b.Compact(live)
		met[d.Deeds()-was]++
		switch {
		case d.Deeds()-was == 1 && e == api.ErrSpace: // neither log is turned
			knowsRuns(t, b, were...)
			knowsDeps(t, b, found...)
		case d.Deeds()-was == 5 && e == api.ErrSpace: // that of what was found is
			knowsRuns(t, b, were...)
		case d.Deeds()-was == 8 && e == api.OK:
			knowsRuns(t, b, kept...)
			knowsDeps(t, b, dep("a", markA, "z"))
		default:
			t.Fatalf("%d bytes left: error %d behind %d deeds", room, e, d.Deeds()-was)
		}
		must(t, d.Remove("filler"))
		// Whatever came of it, what is put then is numbered as the logs have it.
		must(t, b.Put(finding("n", 0, 1, 2), []string{"h", "z"}))
		x, _ := b.Look("n")
		anew := open(t, d)
		hasEntry(t, anew, x.Run, "h", "z")
		knowsRuns(t, anew, b.Runs()...)
		knowsDeps(t, anew, b.Deps()...)
		must(t, b.Compact(live))
		knowsRuns(t, open(t, d), kept...)
		if t.Failed() {
			t.Fatalf("%d bytes left", room)
		}
	}
	if len(met) != 3 {
		t.Errorf("met %v", met)
	}
}

func TestP8_3_GoesDown(t *testing.T) {
	for deeds := range 8 {
		d := fresh(t, 10000)
		b := four(t, d)
		were, found := b.Runs(), b.Deps()
		must(t, b.Sync())
		d.Arm(deeds)
		appends(t, b, 0, api.ErrDown, func() api.Errno { return b.Compact([]string{"b", "a"}) })
		if !d.Down() {
			t.Fatalf("%d deeds: it is not down", deeds)
		}
		d.Restart(disk.Keep{Dir: 1})
		b = open(t, d)
		// The log of what was found comes first; each is whole, or as it was. Of the changes the spare file's coming is one, and the renaming another.
		kept := []names.Dep{dep("a", markA, "z")}
		if deeds < 4 {
			kept = found
		}
		knowsDeps(t, b, kept...)
		knowsRuns(t, b, were...)
		hasEntry(t, b, finding("a", markA, 5), "z")
		if deeds < 4 {
			hasEntry(t, b, finding("z", markZ, 3, 4), "i", "h")
		} else {
			hasNone(t, b, "z")
		}
		must(t, b.Compact([]string{"b", "a"}))
		knowsRuns(t, b, finding("a", markA, 5), plain("b", 7))
		knowsDeps(t, b, dep("a", markA, "z"))
	}
}
