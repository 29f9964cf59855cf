package disk_test

import (
	"bytes"
	"fmt"
	"math"
	"slices"
	"strings"
	"testing"

	"bellows/api"
	"bellows/disk"
)

// fresh is an empty disk with a quota that may be.
func fresh(t *testing.T, quota int) *disk.Disk {
	t.Helper()
	d, e := disk.New(quota)
	if e != api.OK || d == nil {
		t.Fatalf("New(%d): %d", quota, e)
	}
	return d
}

// must checks that deeds were done without an error.
func must(t *testing.T, errors ...api.Errno) {
	t.Helper()
	for i, e := range errors {
		if e != api.OK {
			t.Fatalf("deed %d: error %d", i, e)
		}
	}
}

// fails checks a deed's error, that nothing is turned by it, and that it counts all the same.
func fails(t *testing.T, d *disk.Disk, want api.Errno, deed func() api.Errno) {
	t.Helper()
	was, deeds := state(d), d.Deeds()
	if e := deed(); e != want {
		t.Errorf("error %d, want %d", e, want)
	}
	if got := state(d); got != was {
		t.Errorf("with error %d the disk is turned: %.200s, was %.200s", want, got, was)
	}
	if d.Deeds() != deeds+1 {
		t.Errorf("with error %d %d deeds counted, were %d", want, d.Deeds(), deeds)
	}
}

// state is all that a disk tells of its files.
func state(d *disk.Disk) string {
	var s strings.Builder
	for _, name := range d.Names() {
		b, e := d.Read(name)
		stat, f := d.Stat(name)
		fmt.Fprintf(&s, "%s %q %d %v %d; ", name, b, e, stat, f)
	}
	fmt.Fprint(&s, d.Used(), d.Down())
	return s.String()
}

// holds checks what a disk's files are: each name is followed by the file's bytes.
func holds(t *testing.T, d *disk.Disk, want ...string) {
	t.Helper()
	var got []string
	used := 0
	for _, name := range d.Names() {
		b, e := d.Read(name)
		stat, f := d.Stat(name)
		if e != api.OK || f != api.OK || stat.Size != len(b) {
			t.Errorf("%s: errors %d and %d, %d bytes read, %d told", name, e, f, len(b), stat.Size)
		}
		got = append(got, name, string(b))
		used += len(b)
	}
	if !slices.Equal(got, want) {
		t.Errorf("files are %.200q, want %.200q", got, want)
	}
	if d.Used() != used {
		t.Errorf("%d bytes used, and files have %d", d.Used(), used)
	}
}

// timed checks a file's time.
func timed(t *testing.T, d *disk.Disk, name string, want int) {
	t.Helper()
	if s, e := d.Stat(name); e != api.OK || s.Time != want {
		t.Errorf("%s has the time %d (error %d), want %d", name, s.Time, e, want)
	}
}

func TestP4_1_NewQuota(t *testing.T) {
	for _, quota := range []int{-1, -2, math.MinInt, 1<<24 + 1, 1 << 25, math.MaxInt} {
		if d, e := disk.New(quota); e != api.ErrArg || d != nil {
			t.Errorf("New(%d) = %v, %d", quota, d, e)
		}
	}
	for _, quota := range []int{0, 1, 1 << 20, 1<<24 - 1, 1 << 24} {
		d := fresh(t, quota)
		holds(t, d)
		if d.Down() || d.Deeds() != 0 || d.Used() != 0 {
			t.Errorf("New(%d) is not empty and up", quota)
		}
	}
}

func TestP4_1_WriteAppendCut(t *testing.T) {
	d := fresh(t, 100)
	must(t, d.Write("a", []byte("123")), d.Write("b/c", nil), d.Write("B", []byte{}))
	holds(t, d, "B", "", "a", "123", "b/c", "")
	must(t, d.Append("a", []byte("45")), d.Append("n", []byte("x")), d.Append("m", nil))
	holds(t, d, "B", "", "a", "12345", "b/c", "", "m", "", "n", "x")
	must(t, d.Write("a", []byte("z")), d.Append("a", []byte("yx")), d.Cut("a", 2), d.Append("a", []byte("w")), d.Cut("a", 3))
	holds(t, d, "B", "", "a", "zyw", "b/c", "", "m", "", "n", "x")
	must(t, d.Cut("a", 0), d.Cut("B", 0))
	holds(t, d, "B", "", "a", "", "b/c", "", "m", "", "n", "x")
	if d.Deeds() != 13 {
		t.Errorf("%d deeds", d.Deeds())
	}
}

func TestP4_1_RenameAndRemove(t *testing.T) {
	d := fresh(t, 100)
	must(t, d.Write("a", []byte("1")), d.Write("b", []byte("22")))
	must(t, d.Rename("a", "c/d"))
	holds(t, d, "b", "22", "c/d", "1")
	timed(t, d, "c/d", 1)
	must(t, d.Rename("b", "c/d"))
	holds(t, d, "c/d", "22")
	timed(t, d, "c/d", 2)
	must(t, d.Rename("c/d", "c/d"))
	holds(t, d, "c/d", "22")
	timed(t, d, "c/d", 2)
	must(t, d.Remove("c/d"))
	holds(t, d)
	must(t, d.Write("a", nil))
	timed(t, d, "a", 3)
}

func TestP4_1_DirectoriesAreNoFiles(t *testing.T) {
	d := fresh(t, 100)
	must(t, d.Write("a", []byte("1")), d.Write("a/b", []byte("2")))
	holds(t, d, "a", "1", "a/b", "2")
	must(t, d.Remove("a"))
	holds(t, d, "a/b", "2")
	fails(t, d, api.ErrMissing, func() api.Errno { return d.Remove("a") })
}

func TestP4_1_Times(t *testing.T) {
	d := fresh(t, 100)
	must(t, d.Write("a", nil), d.Write("b", nil))
	timed(t, d, "a", 1)
	timed(t, d, "b", 2)
	must(t, d.Append("a", nil))
	timed(t, d, "a", 3)
	must(t, d.Cut("a", 0))
	timed(t, d, "a", 4)
	must(t, d.Write("a", nil))
	timed(t, d, "a", 5)
	// Nothing else gives a time, nor takes one.
	must(t, d.Sync("a"), d.SyncDir(), d.Rename("a", "c"), d.Remove("b"))
	d.Arm(7)
	d.Restart(disk.Keep{Dir: 9})
	d.Write("/", nil)
	d.Write("a", make([]byte, 101))
	d.Cut("c", 1)
	timed(t, d, "c", 5)
	must(t, d.Append("x", nil))
	timed(t, d, "x", 6)
}

func TestP4_1_NoPath(t *testing.T) {
	d := fresh(t, 100)
	must(t, d.Write("a", []byte("1")))
	for _, name := range []string{"", ".", "..", "/a", "a/", "./a", "b//a", "b/../a", "a b", "ä", "a\n", strings.Repeat("a", 101), strings.Repeat("a", 2000)} {
		for _, deed := range []func() api.Errno{
			func() api.Errno { return d.Write(name, nil) },
			func() api.Errno { return d.Append(name, nil) },
			func() api.Errno { return d.Cut(name, 0) },
			func() api.Errno { return d.Rename(name, "b") },
			func() api.Errno { return d.Rename("a", name) },
			func() api.Errno { return d.Remove(name) },
			func() api.Errno { return d.Sync(name) },
			// What comes behind a name that is none does not count.
			func() api.Errno { return d.Write(name, make([]byte, 1<<17)) },
			func() api.Errno { return d.Append(name, make([]byte, 101)) },
			func() api.Errno { return d.Cut(name, -1) },
			func() api.Errno { return d.Rename("z", name) },
			func() api.Errno { return d.Rename(name, name) },
		} {
			fails(t, d, api.ErrName, deed)
		}
		if _, e := d.Read(name); e != api.ErrMissing {
			t.Errorf("Read(%q): %d", name, e)
		}
		if _, e := d.Stat(name); e != api.ErrMissing {
			t.Errorf("Stat(%q): %d", name, e)
		}
	}
	long := strings.Repeat("a", 100)
	must(t, d.Write(long, nil), d.Rename(long, "..."), d.Remove("..."))
}

func TestP4_1_MissingFiles(t *testing.T) {
	d := fresh(t, 100)
	must(t, d.Write("a", []byte("1")), d.Write("b", nil), d.Remove("b"))
	for _, name := range []string{"b", "c", "a/a", "A"} {
		fails(t, d, api.ErrMissing, func() api.Errno { return d.Cut(name, 0) })
		fails(t, d, api.ErrMissing, func() api.Errno { return d.Cut(name, -1) })
		fails(t, d, api.ErrMissing, func() api.Errno { return d.Rename(name, "a") })
		fails(t, d, api.ErrMissing, func() api.Errno { return d.Rename(name, name) })
		fails(t, d, api.ErrMissing, func() api.Errno { return d.Remove(name) })
		fails(t, d, api.ErrMissing, func() api.Errno { return d.Sync(name) })
	}
}

func TestP4_1_CutsThatMayNotBe(t *testing.T) {
	d := fresh(t, 100)
	must(t, d.Write("a", []byte("123")), d.Write("b", nil), d.Sync("a"))
	for _, n := range []int{-1, 4, 100, math.MinInt, math.MaxInt} {
		fails(t, d, api.ErrArg, func() api.Errno { return d.Cut("a", n) })
		fails(t, d, api.ErrArg, func() api.Errno { return d.Cut("b", n) })
	}
	must(t, d.Cut("a", 2))
	fails(t, d, api.ErrArg, func() api.Errno { return d.Cut("a", 3) })
}

func TestP4_1_LongFiles(t *testing.T) {
	d := fresh(t, 1<<24)
	most := bytes.Repeat([]byte("x"), 1<<16)
	must(t, d.Write("a", most), d.Write("b", most[1:]), d.Append("b", most[:1]), d.Append("c", most), d.Append("c", nil))
	fails(t, d, api.ErrLong, func() api.Errno { return d.Append("a", []byte("x")) })
	fails(t, d, api.ErrLong, func() api.Errno { return d.Append("b", most) })
	fails(t, d, api.ErrLong, func() api.Errno { return d.Write("n", append(most, 'x')) })
	fails(t, d, api.ErrLong, func() api.Errno { return d.Write("a", append(most, 'x')) })
	fails(t, d, api.ErrLong, func() api.Errno { return d.Append("n", append(most, 'x')) })
	must(t, d.Cut("a", 1<<16-1), d.Append("a", []byte("y")), d.Write("b", most))
	// Too long counts ahead of no space.
	small := fresh(t, 10)
	must(t, small.Write("a", []byte("1")))
	fails(t, small, api.ErrLong, func() api.Errno { return small.Append("a", most) })
	fails(t, small, api.ErrLong, func() api.Errno { return small.Write("b", append(most, 'x')) })
	fails(t, small, api.ErrSpace, func() api.Errno { return small.Write("b", most) })
}

func TestP4_1_ManyFiles(t *testing.T) {
	d := fresh(t, 1000)
	for i := range 200 {
		must(t, d.Write(fmt.Sprint("f", i), []byte("1")))
	}
	fails(t, d, api.ErrLong, func() api.Errno { return d.Write("n", nil) })
	fails(t, d, api.ErrLong, func() api.Errno { return d.Append("n", nil) })
	fails(t, d, api.ErrLong, func() api.Errno { return d.Write("n", make([]byte, 2000)) })
	must(t, d.Write("f0", nil), d.Append("f199", []byte("2")), d.Rename("f1", "n"), d.Rename("n", "n"), d.Rename("n", "f2"))
	must(t, d.Append("n", nil))
	fails(t, d, api.ErrLong, func() api.Errno { return d.Append("m", nil) })
	must(t, d.Remove("f3"), d.Write("m", nil))
	fails(t, d, api.ErrLong, func() api.Errno { return d.Write("o", nil) })
	if n := len(d.Names()); n != 200 {
		t.Errorf("%d files", n)
	}
}

func TestP4_1_NoSpace(t *testing.T) {
	d := fresh(t, 10)
	must(t, d.Write("a", []byte("12345")), d.Write("b", []byte("1234")), d.Append("c", []byte("1")), d.Write("d", nil), d.Append("a", nil))
	fails(t, d, api.ErrSpace, func() api.Errno { return d.Append("a", []byte("1")) })
	fails(t, d, api.ErrSpace, func() api.Errno { return d.Append("n", []byte("1")) })
	fails(t, d, api.ErrSpace, func() api.Errno { return d.Write("n", []byte("1")) })
	fails(t, d, api.ErrSpace, func() api.Errno { return d.Write("a", []byte("123456")) })
	// Bytes that are written over, cut, removed or renamed over leave room.
	must(t, d.Write("a", []byte("abcde")), d.Write("a", []byte("abcd")), d.Append("b", []byte("5")))
	fails(t, d, api.ErrSpace, func() api.Errno { return d.Append("c", []byte("2")) })
	must(t, d.Cut("a", 3), d.Append("c", []byte("2")), d.Remove("b"), d.Write("e", []byte("12345")))
	fails(t, d, api.ErrSpace, func() api.Errno { return d.Append("d", []byte("1")) })
	must(t, d.Rename("a", "e"), d.Append("d", []byte("12345")))
	fails(t, d, api.ErrSpace, func() api.Errno { return d.Append("d", []byte("1")) })
	holds(t, d, "c", "12", "d", "12345", "e", "abc")

	none := fresh(t, 0)
	must(t, none.Write("a", nil), none.Append("b", nil))
	fails(t, none, api.ErrSpace, func() api.Errno { return none.Append("a", []byte("1")) })
}

func TestP4_1_WholeQuota(t *testing.T) {
	d := fresh(t, 1<<24)
	for i := range 200 {
		must(t, d.Write(fmt.Sprint(i), make([]byte, 1<<16)))
	}
	if d.Used() != 200<<16 {
		t.Errorf("%d bytes used", d.Used())
	}
}

func TestP4_1_ArmedDisk(t *testing.T) {
	for n := range 5 {
		d := fresh(t, 100)
		must(t, d.Write("a", []byte("1")), d.SyncDir())
		d.Arm(n)
		for i := range n {
			if e := d.Append("a", []byte("2")); e != api.OK {
				t.Fatalf("armed with %d: deed %d: %d", n, i, e)
			}
			if d.Down() {
				t.Fatalf("armed with %d: down behind deed %d, with none ahead", n, i)
			}
		}
		holds(t, d, "a", "1"+strings.Repeat("2", n))
		for range 3 {
			if e := d.Append("a", []byte("3")); e != api.ErrDown {
				t.Errorf("armed with %d: %d, want ErrDown", n, e)
			}
			if !d.Down() || d.Deeds() != 2+n {
				t.Errorf("armed with %d: down %v, %d deeds", n, d.Down(), d.Deeds())
			}
		}
		d.Restart(disk.Keep{Tails: []int{100}})
		holds(t, d, "a", "1"+strings.Repeat("2", n))
	}
}

// deeds are one of each kind, which are done as they stand.
func deeds(d *disk.Disk) map[string]func() api.Errno {
	return map[string]func() api.Errno{
		"Write":   func() api.Errno { return d.Write("n", []byte("1")) },
		"Append":  func() api.Errno { return d.Append("a", []byte("1")) },
		"Cut":     func() api.Errno { return d.Cut("a", 0) },
		"Rename":  func() api.Errno { return d.Rename("a", "n") },
		"Remove":  func() api.Errno { return d.Remove("a") },
		"Sync":    func() api.Errno { return d.Sync("a") },
		"SyncDir": func() api.Errno { return d.SyncDir() },
	}
}

func TestP4_1_EachKindIsADeed(t *testing.T) {
	for kind := range deeds(nil) {
		ready := func() *disk.Disk {
			d := fresh(t, 100)
			must(t, d.Write("a", []byte("1")))
			return d
		}
		d := ready()
		if e := deeds(d)[kind](); e != api.OK || d.Deeds() != 2 {
			t.Errorf("%s: error %d, %d deeds", kind, e, d.Deeds())
		}
		d = ready()
		d.Arm(1)
		if e := deeds(d)[kind](); e != api.OK || d.Down() {
			t.Errorf("%s, the last deed: error %d, down %v", kind, e, d.Down())
		}
		if e := d.SyncDir(); e != api.ErrDown {
			t.Errorf("behind %s: %d", kind, e)
		}
		d = ready()
		d.Arm(0)
		if e := deeds(d)[kind](); e != api.ErrDown || !d.Down() || d.Deeds() != 1 {
			t.Errorf("%s, ahead of which it goes down: error %d, down %v, %d deeds", kind, e, d.Down(), d.Deeds())
		}
		if e := deeds(d)[kind](); e != api.ErrDown || d.Deeds() != 1 {
			t.Errorf("%s, when it is down: error %d, %d deeds", kind, e, d.Deeds())
		}
		d.Restart(disk.Keep{Dir: 1, Tails: []int{1}})
		holds(t, d, "a", "1")
		timed(t, d, "a", 1)
	}
}

func TestP4_1_DeedsWithErrorsCountForAnArming(t *testing.T) {
	for _, fail := range []func(d *disk.Disk) api.Errno{
		func(d *disk.Disk) api.Errno { return d.Write("/", nil) },
		func(d *disk.Disk) api.Errno { return d.Remove("z") },
		func(d *disk.Disk) api.Errno { return d.Cut("a", 9) },
		func(d *disk.Disk) api.Errno { return d.Write("a", make([]byte, 1<<17)) },
		func(d *disk.Disk) api.Errno { return d.Write("a", make([]byte, 101)) },
	} {
		d := fresh(t, 100)
		must(t, d.Write("a", nil))
		d.Arm(1)
		if e := fail(d); e == api.OK || e == api.ErrDown {
			t.Errorf("error %d", e)
		}
		if e := fail(d); e != api.ErrDown {
			t.Errorf("error %d, want ErrDown", e)
		}
	}
}

func TestP4_1_DownCountsFirst(t *testing.T) {
	d := fresh(t, 10)
	d.Arm(0)
	for _, e := range []api.Errno{d.Write("/", nil), d.Remove("z"), d.Write("a", make([]byte, 1<<17)), d.Append("a", make([]byte, 11)), d.Rename("", "")} {
		if e != api.ErrDown {
			t.Errorf("error %d, want ErrDown", e)
		}
	}
}

func TestP4_2_ReadAndStat(t *testing.T) {
	d := fresh(t, 1000)
	all := make([]byte, 256)
	for i := range all {
		all[i] = byte(i)
	}
	must(t, d.Write("x", nil), d.Write("a", all))
	if b, e := d.Read("a"); e != api.OK || !bytes.Equal(b, all) {
		t.Errorf("Read: %v, %d", b, e)
	}
	if s, e := d.Stat("a"); e != api.OK || s != (disk.Stat{Size: 256, Time: 2}) {
		t.Errorf("Stat: %v, %d", s, e)
	}
	if b, e := d.Read("x"); e != api.OK || len(b) != 0 {
		t.Errorf("Read of no bytes: %v, %d", b, e)
	}
	if b, e := d.Read("z"); e != api.ErrMissing || b != nil {
		t.Errorf("Read of no file: %v, %d", b, e)
	}
	if s, e := d.Stat("z"); e != api.ErrMissing || s != (disk.Stat{}) {
		t.Errorf("Stat of no file: %v, %d", s, e)
	}
	if d.Deeds() != 2 {
		t.Error("looking is no deed")
	}
}

func TestP4_2_NamesRise(t *testing.T) {
	d := fresh(t, 10)
	for _, name := range []string{"b", "a/b", "a", "a-b", "Z", "_", "0", "a.b", "aa", "+", ".x"} {
		must(t, d.Write(name, nil))
	}
	want := []string{"+", ".x", "0", "Z", "_", "a", "a-b", "a.b", "a/b", "aa", "b"}
	if got := d.Names(); !slices.Equal(got, want) {
		t.Errorf("%q, want %q", got, want)
	}
	clear(d.Names())
	if got := d.Names(); !slices.Equal(got, want) {
		t.Error("names that are told are not new")
	}
}

func TestP4_2_BytesAreNotShared(t *testing.T) {
	d := fresh(t, 1000)
	room := bytes.Repeat([]byte("r"), 40)
	was := bytes.Clone(room)
	must(t, d.Write("a", room[:5]), d.Append("a", room[:3]), d.Append("b", room[:4]), d.Append("a", room[:2]), d.Append("b", room[:1]))
	if !bytes.Equal(room, was) {
		t.Error("what is handed in, or the room behind it, is turned")
	}
	clear(room)
	holds(t, d, "a", "rrrrrrrrrr", "b", "rrrrr")
	first, _ := d.Read("a")
	clear(first)
	first = append(first[:3], "zzz"...)
	holds(t, d, "a", "rrrrrrrrrr", "b", "rrrrr")
	kept, _ := d.Read("a")
	must(t, d.Cut("a", 2), d.Append("a", []byte("xyz")))
	if string(kept) != "rrrrrrrrrr" {
		t.Errorf("what was read is turned later on: %q", kept)
	}
	tails := []int{1, 2}
	d.Restart(disk.Keep{Dir: 9, Tails: tails})
	if !slices.Equal(tails, []int{1, 2}) {
		t.Error("tails are turned")
	}
}

func TestP4_2_DiskThatIsDown(t *testing.T) {
	d := fresh(t, 100)
	must(t, d.Write("a", []byte("12")), d.Sync("a"), d.SyncDir(), d.Append("a", []byte("3")))
	d.Arm(0)
	// Looking is no deed: till one comes it is up.
	holds(t, d, "a", "123")
	if d.Down() {
		t.Error("down without a deed")
	}
	if e := d.SyncDir(); e != api.ErrDown {
		t.Errorf("error %d", e)
	}
	if b, e := d.Read("a"); e != api.ErrDown || b != nil {
		t.Errorf("Read: %v, %d", b, e)
	}
	if s, e := d.Stat("a"); e != api.ErrDown || s != (disk.Stat{}) {
		t.Errorf("Stat: %v, %d", s, e)
	}
	if _, e := d.Read("/"); e != api.ErrDown {
		t.Errorf("Read of no path: %d", e)
	}
	if len(d.Names()) != 0 || !d.Down() || d.Deeds() != 4 || d.Used() != 3 {
		t.Errorf("%q, down %v, %d deeds, %d bytes", d.Names(), d.Down(), d.Deeds(), d.Used())
	}
	for _, n := range []int{-1, 0, 5} {
		d.Arm(n)
		if e := d.Write("b", nil); e != api.ErrDown || !d.Down() {
			t.Error("an arming does not bring it up")
		}
	}
	d.Restart(disk.Keep{})
	holds(t, d, "a", "12")
	must(t, d.Write("b", nil))
	if d.Deeds() != 5 {
		t.Errorf("%d deeds", d.Deeds())
	}
}

func TestP4_2_Arming(t *testing.T) {
	d := fresh(t, 100)
	// The last arming counts, from itself on.
	d.Arm(1)
	d.Arm(2)
	must(t, d.Write("a", nil))
	d.Arm(2)
	must(t, d.Write("a", nil), d.Write("a", nil))
	// Below 0 none is left.
	for _, n := range []int{-1, math.MinInt} {
		d.Arm(0)
		d.Arm(n)
		for range 5 {
			must(t, d.Write("a", nil))
		}
	}
	d.Arm(math.MaxInt)
	must(t, d.Write("a", nil))
	// A restart leaves none either.
	d.Arm(0)
	d.Restart(disk.Keep{})
	must(t, d.Write("a", nil), d.Write("b", nil))
	d.Arm(1)
	must(t, d.Write("a", nil))
	if d.Write("a", nil) != api.ErrDown {
		t.Error("not down")
	}
	d.Restart(disk.Keep{})
	must(t, d.Write("a", nil), d.Write("b", nil))
}

func TestP4_2_RestartOfTheDirectory(t *testing.T) {
	// Each state of the directory is one that a restart may come to.
	want := [][]string{
		{"a", "1", "b", "2"},
		{"a", "x", "b", "2"},
		{"b", "2", "c", "x"},
		{"b", "2", "c", "x"},
		{"b", "2", "c", "x", "d", ""},
		{"c", "x", "d", ""},
		{"d", "x"},
	}
	for _, n := range []int{math.MinInt, -1, 0, 1, 2, 3, 4, 5, 6, 7, 100, math.MaxInt} {
		d := fresh(t, 100)
		must(t, d.Write("a", []byte("1")), d.Write("b", []byte("2")), d.Sync("a"), d.Sync("b"), d.SyncDir())
		must(t, d.Write("a", []byte("x")), d.Sync("a"), d.Rename("a", "c"), d.Rename("c", "c"))
		must(t, d.Append("d", nil), d.Append("d", nil), d.Cut("d", 0), d.Remove("b"), d.Rename("c", "d"))
		d.Remove("z")
		d.Rename("z", "y")
		d.Write("/", nil)
		d.Restart(disk.Keep{Dir: n})
		state := want[min(max(n, 0), 6)]
		holds(t, d, state...)
		// What the restart made is sure.
		d.Restart(disk.Keep{Dir: 100})
		holds(t, d, state...)
	}
}

func TestP4_2_SyncOfTheDirectoryIsNoneOfFiles(t *testing.T) {
	d := fresh(t, 100)
	must(t, d.Write("a", []byte("1")), d.SyncDir())
	d.Restart(disk.Keep{Dir: 9})
	holds(t, d, "a", "")
	timed(t, d, "a", 2)
	must(t, d.Write("b", []byte("1")), d.Sync("b"))
	d.Restart(disk.Keep{})
	holds(t, d, "a", "")
	must(t, d.Write("b", []byte("1")), d.Sync("b"), d.Rename("b", "c"), d.SyncDir(), d.Remove("c"))
	d.Restart(disk.Keep{})
	holds(t, d, "a", "", "c", "1")
	timed(t, d, "c", 4)
}

func TestP4_2_RestartOfBytes(t *testing.T) {
	for _, c := range []struct {
		tails []int
		want  [4]string
		times [4]int
	}{
		{nil, [4]string{"", "12", "123", ""}, [4]int{6, 7, 3, 8}},
		{[]int{}, [4]string{"", "12", "123", ""}, [4]int{6, 7, 3, 8}},
		{[]int{0}, [4]string{"", "12", "123", ""}, [4]int{6, 7, 3, 8}},
		{[]int{-1}, [4]string{"", "12", "123", ""}, [4]int{6, 7, 3, 8}},
		{[]int{math.MinInt}, [4]string{"", "12", "123", ""}, [4]int{6, 7, 3, 8}},
		{[]int{1}, [4]string{"1", "12x", "123", "1"}, [4]int{6, 7, 3, 8}},
		{[]int{2}, [4]string{"12", "12xy", "123", "12"}, [4]int{6, 5, 3, 7}},
		{[]int{3}, [4]string{"123", "12xy", "123", "123"}, [4]int{1, 5, 3, 4}},
		{[]int{math.MaxInt}, [4]string{"123", "12xy", "123", "123"}, [4]int{1, 5, 3, 4}},
		{[]int{1, 2}, [4]string{"1", "12xy", "123", "12"}, [4]int{6, 5, 3, 7}},
		{[]int{9, -5, 1}, [4]string{"123", "12", "123", "123"}, [4]int{1, 6, 3, 4}},
		// The file of which nothing can be lost has its place among them, too.
		{[]int{0, 9, 0, 2}, [4]string{"", "12xy", "123", "12"}, [4]int{6, 5, 3, 7}},
		{[]int{0, 0, 0, 0, 9}, [4]string{"", "12", "123", ""}, [4]int{6, 7, 3, 8}},
	} {
		d := fresh(t, 100)
		must(t, d.Write("a", []byte("123")), d.Write("b", []byte("12")), d.Write("c", []byte("123")), d.Write("d", []byte("123")))
		must(t, d.Sync("b"), d.Sync("c"), d.Append("b", []byte("xy")), d.SyncDir())
		d.Restart(disk.Keep{Tails: c.tails})
		holds(t, d, "a", c.want[0], "b", c.want[1], "c", c.want[2], "d", c.want[3])
		for i, name := range []string{"a", "b", "c", "d"} {
			timed(t, d, name, c.times[i])
		}
		// All is sure now.
		d.Restart(disk.Keep{})
		holds(t, d, "a", c.want[0], "b", c.want[1], "c", c.want[2], "d", c.want[3])
	}
}

func TestP4_2_TailsAreThoseOfFilesThatAreLeft(t *testing.T) {
	d := fresh(t, 100)
	must(t, d.Write("c", []byte("123")), d.SyncDir(), d.Rename("c", "a"), d.Write("b", []byte("123")))
	d.Restart(disk.Keep{Tails: []int{2, 1}})
	holds(t, d, "c", "12")
	must(t, d.Append("c", []byte("xyz")), d.Write("b", []byte("123")), d.Rename("c", "a"), d.Write("c", []byte("45")))
	d.Restart(disk.Keep{Dir: 2, Tails: []int{2, 1}})
	holds(t, d, "a", "12xy", "b", "1")
}

func TestP4_2_CutsAndWhatIsSure(t *testing.T) {
	d := fresh(t, 100)
	must(t, d.Write("a", []byte("12345")), d.Sync("a"), d.SyncDir())
	must(t, d.Cut("a", 2), d.Append("a", []byte("xyz")))
	d.Restart(disk.Keep{Tails: []int{1}})
	holds(t, d, "a", "12x")
	must(t, d.Append("a", []byte("789")), d.Cut("a", 5))
	d.Restart(disk.Keep{Tails: []int{1}})
	holds(t, d, "a", "12x7")
	must(t, d.Append("a", []byte("89")), d.Cut("a", 5))
	d.Restart(disk.Keep{})
	holds(t, d, "a", "12x7")
	// A cut leaves nothing that could come back.
	must(t, d.Cut("a", 1))
	d.Restart(disk.Keep{Tails: []int{100}})
	holds(t, d, "a", "1")
}

func TestP4_2_AFileThatIsWrittenAnewIsAnotherOne(t *testing.T) {
	d := fresh(t, 100)
	must(t, d.Write("a", []byte("old")), d.Sync("a"), d.SyncDir(), d.Write("a", []byte("new")), d.Sync("a"), d.Append("a", []byte("er")))
	d.Restart(disk.Keep{})
	holds(t, d, "a", "old")
	timed(t, d, "a", 1)
	must(t, d.Write("a", []byte("new")), d.Sync("a"), d.Append("a", []byte("er")))
	d.Restart(disk.Keep{Dir: 1})
	holds(t, d, "a", "new")
	// What is appended is put to the file, not to its name.
	must(t, d.Append("a", []byte("1")), d.Rename("a", "b"), d.Append("b", []byte("2")), d.Sync("b"), d.Write("a", []byte("x")))
	d.Restart(disk.Keep{})
	holds(t, d, "a", "new12")
}

func TestP4_2_MoreThanTheQuota(t *testing.T) {
	// What is removed comes back behind a restart, where another one has its room: nothing more is put then, but all can be taken away.
	full := func() *disk.Disk {
		d := fresh(t, 20)
		must(t, d.Write("a", make([]byte, 10)), d.Write("b", make([]byte, 10)), d.Sync("a"), d.SyncDir())
		must(t, d.Remove("a"), d.Append("b", make([]byte, 10)), d.Sync("b"))
		d.Restart(disk.Keep{})
		return d
	}
	d := full()
	if d.Used() != 30 {
		t.Errorf("%d bytes used", d.Used())
	}
	fails(t, d, api.ErrSpace, func() api.Errno { return d.Append("a", nil) })
	fails(t, d, api.ErrSpace, func() api.Errno { return d.Write("n", nil) })
	fails(t, d, api.ErrSpace, func() api.Errno { return d.Write("a", []byte("1")) })
	must(t, d.Write("b", make([]byte, 10)), d.Append("a", nil))
	d = full()
	must(t, d.Sync("a"), d.SyncDir(), d.Rename("a", "c"), d.Cut("c", 5), d.Cut("c", 0), d.Write("n", nil))
	d = full()
	must(t, d.Remove("b"), d.Write("n", make([]byte, 10)))
}

func TestP4_2_NoDisk(t *testing.T) {
	for _, d := range []*disk.Disk{nil, {}} {
		for range 2 {
			for kind, deed := range deeds(d) {
				if e := deed(); e != api.ErrDown {
					t.Errorf("%s: %d", kind, e)
				}
			}
			if b, e := d.Read("a"); e != api.ErrDown || b != nil {
				t.Errorf("Read: %v, %d", b, e)
			}
			if s, e := d.Stat("a"); e != api.ErrDown || s != (disk.Stat{}) {
				t.Errorf("Stat: %v, %d", s, e)
			}
			if len(d.Names()) != 0 || d.Used() != 0 || d.Deeds() != 0 || !d.Down() {
				t.Error("there is something, or it is up")
			}
			d.Arm(3)
			d.Restart(disk.Keep{Dir: 1, Tails: []int{1}})
		}
	}
}
