package reclog_test

import (
	"bytes"
	"fmt"
	"hash/crc32"
	"math"
	"slices"
	"strings"
	"testing"

	"bellows/api"
	"bellows/disk"
	"bellows/reclog"
)

// fresh is an empty disk with a quota that may be.
func fresh(t *testing.T, quota int) *disk.Disk {
	t.Helper()
	d, e := disk.New(quota)
	if e != api.OK {
		t.Fatalf("New(%d): %d", quota, e)
	}
	return d
}

// must checks that calls answered no error.
func must(t *testing.T, errors ...api.Errno) {
	t.Helper()
	for i, e := range errors {
		if e != api.OK {
			t.Fatalf("call %d: error %d", i, e)
		}
	}
}

// head is a log's, written out.
func head(kind byte) string { return "BLW1" + string([]byte{kind, 0, 0, 0}) }

// framed is a record in a file, by other means than the program's.
func framed(record string) string {
	n, sum := len(record), crc32.ChecksumIEEE([]byte(record))
	return string([]byte{byte(n), byte(n >> 8), byte(n >> 16), byte(n >> 24), byte(sum), byte(sum >> 8), byte(sum >> 16), byte(sum >> 24)}) + record
}

// file is a log's, with these records.
func file(kind byte, records ...string) string {
	all := head(kind)
	for _, r := range records {
		all += framed(r)
	}
	return all
}

// texts are records as texts.
func texts(records [][]byte) []string {
	var l []string
	for _, r := range records {
		l = append(l, string(r))
	}
	return l
}

// lists are texts as records.
func lists(records ...string) [][]byte {
	var l [][]byte
	for _, r := range records {
		l = append(l, []byte(r))
	}
	return l
}

// state is all that a disk tells of its files' names and bytes.
func state(d *disk.Disk) string {
	var s strings.Builder
	for _, name := range d.Names() {
		b, e := d.Read(name)
		fmt.Fprintf(&s, "%s %q %d; ", name, b, e)
	}
	fmt.Fprint(&s, d.Down())
	return s.String()
}

// holds checks what a disk's files are: each name is followed by the file's bytes.
func holds(t *testing.T, d *disk.Disk, want ...string) {
	t.Helper()
	var got []string
	for _, name := range d.Names() {
		b, _ := d.Read(name)
		got = append(got, name, string(b))
	}
	if !slices.Equal(got, want) {
		t.Errorf("files are %.300q, want %.300q", got, want)
	}
}

// deeds checks how many deeds a call counts.
func deeds(t *testing.T, d *disk.Disk, want int, call func()) {
	t.Helper()
	was := d.Deeds()
	call()
	if d.Deeds()-was != want {
		t.Errorf("%d deeds, want %d", d.Deeds()-was, want)
	}
}

// open opens a log that must be right, with these records.
func open(t *testing.T, d *disk.Disk, name string, kind byte, want ...string) *reclog.Log {
	t.Helper()
	l, records, e := reclog.Open(d, name, kind)
	if e != api.OK || l == nil || !slices.Equal(texts(records), want) {
		t.Fatalf("Open: %v, %.200q, %d, want %.200q", l, records, e, want)
	}
	return l
}

// refuses checks that a log is not opened.
func refuses(t *testing.T, d *disk.Disk, name string, kind byte, want api.Errno) {
	t.Helper()
	if l, records, e := reclog.Open(d, name, kind); e != want || l != nil || len(records) != 0 {
		t.Errorf("Open of %q: %v, %q, %d, want error %d", name, l, records, e, want)
	}
}

func TestP5_1_Head(t *testing.T) {
	for kind := range 256 {
		if got := reclog.Head(byte(kind)); !bytes.Equal(got, []byte{66, 76, 87, 49, byte(kind), 0, 0, 0}) {
			t.Errorf("Head(%d) = %v", kind, got)
		}
	}
	h := reclog.Head(1)
	clear(h[:cap(h)])
	if got := reclog.Head(1); string(got) != head(1) {
		t.Errorf("a head that was handed out turns another one: %v", got)
	}
}

func TestP5_1_Frame(t *testing.T) {
	got, e := reclog.Frame([]byte("a"))
	if want := []byte{1, 0, 0, 0, 67, 190, 183, 232, 97}; e != api.OK || !bytes.Equal(got, want) {
		t.Errorf("frame of a: %v, %d", got, e)
	}
	for _, record := range []string{"", "\x00", "ab", strings.Repeat("x", 255), strings.Repeat("x", 256), strings.Repeat("\xff", 4095), strings.Repeat("z", 4096)} {
		if got, e := reclog.Frame([]byte(record)); e != api.OK || string(got) != framed(record) {
			t.Errorf("frame of %d bytes: %d, %.20v", len(record), e, got)
		}
	}
	if got, e := reclog.Frame(nil); e != api.OK || string(got) != "\x00\x00\x00\x00\x00\x00\x00\x00" {
		t.Errorf("frame of nothing: %v, %d", got, e)
	}
	for _, n := range []int{4097, 5000, 1 << 16, 1 << 20} {
		if got, e := reclog.Frame(make([]byte, n)); e != api.ErrLong || got != nil {
			t.Errorf("frame of %d bytes: %d, %d bytes", n, e, len(got))
		}
	}
}

func TestP5_1_FrameSharesNothing(t *testing.T) {
	whole := []byte("abcdef")
	got, _ := reclog.Frame(whole[:3])
	clear(got[:cap(got)])
	if string(whole) != "abcdef" {
		t.Errorf("the record is turned to %q", whole)
	}
}

func TestP5_1_ScanHeads(t *testing.T) {
	h := head(7)
	for n := range len(h) + 1 {
		end := 0
		if n == len(h) {
			end = n
		}
		if l, got, e := reclog.Scan([]byte(h[:n]), 7); e != api.OK || got != end || len(l) != 0 {
			t.Errorf("%d bytes of a head: %v, %d, %d", n, l, got, e)
		}
		for at := range n {
			for _, turn := range []byte{1, 0x80, 0xff} {
				b := []byte(h[:n] + strings.Repeat(framed("a"), n%2))
				b[at] ^= turn
				if l, end, e := reclog.Scan(b, 7); e != api.ErrHeader || end != 0 || len(l) != 0 {
					t.Errorf("%d bytes of a head, the %d-th is turned: %v, %d, %d", n, at, l, end, e)
				}
			}
		}
	}
	if l, end, e := reclog.Scan(nil, 7); e != api.OK || end != 0 || len(l) != 0 {
		t.Errorf("of nothing: %v, %d, %d", l, end, e)
	}
	for kind := range 256 {
		l, end, e := reclog.Scan([]byte(file(byte(kind), "a")), 7)
		if right := kind == 7; right != (e == api.OK) || !right && (e != api.ErrHeader || end != 0 || l != nil) {
			t.Errorf("kind %d as 7: %v, %d, %d", kind, l, end, e)
		}
	}
}

func TestP5_1_ScanEnds(t *testing.T) {
	long, longer := strings.Repeat("x", 4096), strings.Repeat("x", 4097)
	good := file(2, "a", "", "bc")
	for name, c := range map[string]struct {
		more string
		want []string
	}{
		"nothing":               {"", nil},
		"nothing's record":      {framed(""), []string{""}},
		"eight noughts":         {"\x00\x00\x00\x00\x00\x00\x00\x00", []string{""}},
		"seven noughts":         {"\x00\x00\x00\x00\x00\x00\x00", nil},
		"the longest":           {framed(long) + framed("z"), []string{long, "z"}},
		"one too long":          {framed(longer) + framed("z"), nil},
		"all bits of length":    {"\xff\xff\xff\xff" + framed("z")[4:] + long, nil},
		"the highest bit of it": {"\x01\x00\x00\x80" + framed("a")[4:] + long, nil},
		"one byte missing":      {framed("abc")[:10], nil},
		"all bytes missing":     {framed("abc")[:8], nil},
		"another sum":           {"\x01\x00\x00\x00" + framed("b")[4:8] + "a" + framed("z"), nil},
		"a sum's bytes turned":  {framed("a")[:4] + "\xe8\xb7\xbe\x43" + "a", nil},
		"a good, a bad, a good": {framed("y") + framed("w")[:8] + "v" + framed("u"), []string{"y"}},
		"another head":          {head(2), nil},
	} {
		l, end, e := reclog.Scan([]byte(good+c.more), 2)
		want := append([]string{"a", "", "bc"}, c.want...)
		if at := len(file(2, want...)); e != api.OK || end != at || !slices.Equal(texts(l), want) {
			t.Errorf("%s: %.100q, %d, %d; want %.100q, %d", name, l, end, e, want, at)
		}
	}
}

func TestP5_1_ScanSharesNothing(t *testing.T) {
	b := []byte(file(1, "ab", "cd", "", "ef"))
	l, _, _ := reclog.Scan(b, 1)
	clear(b)
	for i := range l {
		l[i] = append(l[i], "!!!!!!!!!!!!!!!!!!"...)
	}
	const more = "!!!!!!!!!!!!!!!!!!"
	if got := texts(l); !slices.Equal(got, []string{"ab" + more, "cd" + more, more, "ef" + more}) {
		t.Errorf("records are turned by the bytes, or by each other: %q", got)
	}
	if !bytes.Equal(b, make([]byte, len(b))) {
		t.Error("the bytes are turned by the records")
	}
	b = []byte(file(1, "ab"))
	l, _, _ = reclog.Scan(b, 1)
	l[0][0] = 'x'
	if string(b) != file(1, "ab") {
		t.Error("the bytes are turned by a record")
	}
}

func TestP5_2_OpenWritesAHead(t *testing.T) {
	for n := range 8 {
		d := fresh(t, 100)
		if n > 0 {
			must(t, d.Write("x/l", []byte(head(9)[:n-1])))
		}
		deeds(t, d, 1, func() { open(t, d, "x/l", 9) })
		holds(t, d, "x/l", head(9))
		deeds(t, d, 0, func() { open(t, d, "x/l", 9) })
	}
	d := fresh(t, 100)
	must(t, d.Write("l", nil), d.Sync("l"), d.SyncDir())
	open(t, d, "l", 9)
	d.Restart(disk.Keep{Dir: 0, Tails: []int{100}})
	// It is written anew, not appended to: so without its change of the directory the file is the one that was there.
	holds(t, d, "l", "")
}

func TestP5_2_OpenScansAndCuts(t *testing.T) {
	records := []string{"one", "", "three", strings.Repeat("4", 4096)}
	whole := file(3, records...)
	ends := []int{8}
	for i := range records {
		ends = append(ends, len(file(3, records[:i+1]...)))
	}
	for n := 8; n <= len(whole); n++ {
		d := fresh(t, 1<<20)
		must(t, d.Write("l", []byte(whole[:n])), d.Write("other", []byte("o")))
		at, there := slices.BinarySearch(ends, n)
		want := 0
		if !there {
			at, want = at-1, 1
		}
		stat, _ := d.Stat("l")
		deeds(t, d, want, func() { open(t, d, "l", 3, records[:at]...) })
		holds(t, d, "l", whole[:ends[at]], "other", "o")
		if now, _ := d.Stat("l"); there && now != stat {
			t.Errorf("%d bytes: a good file is turned", n)
		}
	}
}

func TestP5_2_OpenCutsForGood(t *testing.T) {
	d := fresh(t, 100)
	must(t, d.Write("l", []byte(file(1, "a", "b")+"torn")), d.Sync("l"), d.SyncDir())
	l := open(t, d, "l", 1, "a", "b")
	d.Restart(disk.Keep{})
	holds(t, d, "l", file(1, "a", "b"))
	must(t, l.Append([]byte("c")))
	open(t, d, "l", 1, "a", "b", "c")
}

func TestP5_2_SpareFile(t *testing.T) {
	for _, b := range []string{"", "x", file(1, "n")} {
		d := fresh(t, 100)
		must(t, d.Write("l", []byte(file(1, "a"))), d.Write("l.new", []byte(b)), d.Write("m.new", nil), d.Write("new", nil), d.Write("l.new.new", nil))
		deeds(t, d, 1, func() { open(t, d, "l", 1, "a") })
		holds(t, d, "l", file(1, "a"), "l.new.new", "", "m.new", "", "new", "")
	}
	d := fresh(t, 100)
	must(t, d.Write("l.new", []byte(file(1, "n"))))
	deeds(t, d, 2, func() { open(t, d, "l", 1) })
	holds(t, d, "l", head(1))
	// All is one deed less than full: the spare file goes first, so there is room for the head.
	d = fresh(t, 8)
	must(t, d.Write("l.new", []byte("12345678")))
	open(t, d, "l", 1)
	holds(t, d, "l", head(1))
}

func TestP5_2_ErrHeader(t *testing.T) {
	for _, b := range []string{"x", "BLW2", "BLW1\x02", "BLW1\x01\x00\x00\x01", file(2, "a"), "BLW1\x01\x00\x01\x00" + framed("a"), "\x00"} {
		for _, spare := range []bool{false, true} {
			d := fresh(t, 100)
			must(t, d.Write("l", []byte(b)))
			want := 0
			if spare {
				must(t, d.Write("l.new", []byte("s")))
				want = 1
			}
			deeds(t, d, want, func() { refuses(t, d, "l", 1, api.ErrHeader) })
			holds(t, d, "l", b)
		}
	}
}

func TestP5_2_DiskErrors(t *testing.T) {
	refuses(t, nil, "l", 1, api.ErrDown)
	refuses(t, nil, "", 1, api.ErrDown)
	refuses(t, &disk.Disk{}, "l", 1, api.ErrDown)
	d := fresh(t, 7)
	refuses(t, d, "l", 1, api.ErrSpace)
	holds(t, d)
	d = fresh(t, 8)
	open(t, d, "l", 1)
	for _, name := range []string{"", "/", ".", "a/../b", "a b", "./l", strings.Repeat("l", 101)} {
		d := fresh(t, 100)
		refuses(t, d, name, 1, api.ErrName)
		holds(t, d)
	}
	d = fresh(t, 1000)
	for i := range 200 {
		must(t, d.Write(fmt.Sprint("f", i), nil))
	}
	refuses(t, d, "l", 1, api.ErrLong)
	must(t, d.Remove("f7"))
	open(t, d, "l", 1)
}

func TestP5_2_GoesDown(t *testing.T) {
	for name, c := range map[string]struct {
		files []string
		deeds int
	}{
		"a head":           {nil, 1},
		"a cut":            {[]string{"l", file(1, "a") + "x"}, 1},
		"a spare file":     {[]string{"l", file(1, "a"), "l.new", ""}, 1},
		"both":             {[]string{"l", file(1, "a") + "x", "l.new", ""}, 2},
		"a spare file, ..": {[]string{"l.new", ""}, 2},
		"nothing":          {[]string{"l", file(1, "a")}, 0},
	} {
		for n := range c.deeds + 1 {
			d := fresh(t, 100)
			for i := 0; i < len(c.files); i += 2 {
				must(t, d.Write(c.files[i], []byte(c.files[i+1])))
			}
			d.Arm(n)
			l, records, e := reclog.Open(d, "l", 1)
			if right := n == c.deeds; right != (e == api.OK) || !right && (e != api.ErrDown || l != nil || records != nil) || right == d.Down() {
				t.Errorf("%s, down behind %d deeds: %v, %q, %d", name, n, l, records, e)
			}
			if d.Down() {
				refuses(t, d, "l", 1, api.ErrDown)
			}
		}
	}
}

func TestP5_2_LongName(t *testing.T) {
	// A name whose spare file's is no path any more has none.
	name := strings.Repeat("n", 97)
	d := fresh(t, 1000)
	l := open(t, d, name, 1)
	must(t, l.Append([]byte("a")), l.Sync())
	if e := l.Rewrite(lists("b")); e != api.ErrName {
		t.Errorf("Rewrite: %d", e)
	}
	open(t, d, name, 1, "a")
	l = open(t, d, name[1:], 1)
	must(t, l.Rewrite(lists("b")))
	open(t, d, name[1:], 1, "b")
}

func TestP5_3_Append(t *testing.T) {
	d := fresh(t, 1<<17)
	l := open(t, d, "l", 5)
	records := []string{"a", "", "bc", strings.Repeat("z", 4096), "\x00\xff"}
	for i, r := range records {
		deeds(t, d, 1, func() { must(t, l.Append([]byte(r))) })
		holds(t, d, "l", file(5, records[:i+1]...))
	}
	for _, n := range []int{4097, 1 << 17} {
		deeds(t, d, 0, func() {
			if e := l.Append(make([]byte, n)); e != api.ErrLong {
				t.Errorf("%d bytes: %d", n, e)
			}
		})
	}
	open(t, d, "l", 5, records...)
	must(t, l.Append(nil))
	open(t, d, "l", 5, append(records, "")...)
}

func TestP5_3_AppendErrors(t *testing.T) {
	d := fresh(t, 8+9+8)
	l := open(t, d, "l", 1)
	must(t, l.Append([]byte("a")))
	was := state(d)
	if e := l.Append([]byte("b")); e != api.ErrSpace || state(d) != was {
		t.Errorf("no space: %d, %s", e, state(d))
	}
	must(t, l.Append(nil))
	open(t, d, "l", 1, "a", "")

	d = fresh(t, 1<<20)
	l = open(t, d, "l", 1)
	n := 0
	for l.Append(make([]byte, 4096)) == api.OK {
		n++
	}
	if e := l.Append(make([]byte, 4096)); n != (1<<16-8)/(4096+8) || e != api.ErrLong {
		t.Errorf("%d records, then %d", n, e)
	}
	must(t, l.Append(make([]byte, 1<<16-8-n*(4096+8)-8)))
	if e := l.Append(nil); e != api.ErrLong {
		t.Errorf("one byte above a file's: %d", e)
	}

	d.Arm(0)
	if e := l.Append([]byte("a")); e != api.ErrDown {
		t.Errorf("down: %d", e)
	}
	if e := l.Append(make([]byte, 4097)); e != api.ErrLong {
		t.Errorf("down, and too long: %d", e)
	}
}

func TestP5_3_Sync(t *testing.T) {
	d := fresh(t, 100)
	l := open(t, d, "l", 1)
	must(t, l.Append([]byte("a")))
	deeds(t, d, 2, func() { must(t, l.Sync()) })
	must(t, l.Append([]byte("b")))
	d.Restart(disk.Keep{})
	l = open(t, d, "l", 1, "a")

	// First the file, then the directory: with one deed alone the bytes are sure, and no change of the directory.
	must(t, l.Append([]byte("b")), d.Write("other", nil))
	d.Arm(1)
	if e := l.Sync(); e != api.ErrDown {
		t.Errorf("down behind one deed: %d", e)
	}
	d.Restart(disk.Keep{})
	holds(t, d, "l", file(1, "a", "b"))

	must(t, d.Remove("l"))
	deeds(t, d, 1, func() {
		if e := l.Sync(); e != api.ErrMissing {
			t.Errorf("without a file: %d", e)
		}
	})
	d.Arm(0)
	if e := l.Sync(); e != api.ErrDown {
		t.Errorf("down: %d", e)
	}
}

func TestP5_3_Rewrite(t *testing.T) {
	d := fresh(t, 1<<17)
	l := open(t, d, "l", 5)
	must(t, l.Append([]byte("a")), l.Append([]byte("b")))
	for _, records := range [][]string{{"b", "b", "", "c"}, nil, {strings.Repeat("z", 4096), "y"}, {"a"}} {
		deeds(t, d, 4, func() { must(t, l.Rewrite(lists(records...))) })
		holds(t, d, "l", file(5, records...))
		d.Restart(disk.Keep{})
		holds(t, d, "l", file(5, records...))
	}
	must(t, l.Append([]byte("d")))
	open(t, d, "l", 5, "a", "d")
	// A spare file that is there is written anew.
	must(t, d.Write("l.new", []byte("left")), l.Rewrite(lists("e")))
	holds(t, d, "l", file(5, "e"))
}

func TestP5_3_RewriteInOrder(t *testing.T) {
	for n := range 5 {
		for dir := range 3 {
			d := fresh(t, 1000)
			l := open(t, d, "l", 5)
			must(t, l.Append([]byte("old")), l.Sync())
			d.Arm(n)
			if e := l.Rewrite(lists("new", "er")); (e == api.OK) != (n == 4) || n < 4 && e != api.ErrDown {
				t.Errorf("down behind %d deeds: %d", n, e)
			}
			d.Restart(disk.Keep{Dir: dir})
			whole, old := file(5, "new", "er"), file(5, "old")
			switch {
			case n == 4, n == 3 && dir == 2:
				holds(t, d, "l", whole)
			case n >= 1 && dir >= 1:
				// The sync lies behind the write, and ahead of the renaming.
				holds(t, d, "l", old, "l.new", map[bool]string{true: whole}[n >= 2])
			default:
				holds(t, d, "l", old)
			}
		}
	}
}

func TestP5_3_RewriteErrors(t *testing.T) {
	d := fresh(t, 1<<17)
	l := open(t, d, "l", 1)
	must(t, l.Append([]byte("a")))
	was := state(d)
	long := make([]byte, 4097)
	for _, records := range [][][]byte{{long}, {[]byte("b"), long}, {long, []byte("b")}, append(slices.Repeat([][]byte{long[:4096]}, 16), long)} {
		deeds(t, d, 0, func() {
			if e := l.Rewrite(records); e != api.ErrLong || state(d) != was {
				t.Errorf("%d records: %d, %s", len(records), e, state(d))
			}
		})
	}
	deeds(t, d, 1, func() {
		if e := l.Rewrite(slices.Repeat([][]byte{long[:4096]}, 16)); e != api.ErrLong || state(d) != was {
			t.Errorf("more than a file may have: %d, %s", e, state(d))
		}
	})
	must(t, l.Rewrite(append(slices.Repeat([][]byte{long[:4096]}, 15), long[:1<<16-8-15*4104-8])))
	if s, _ := d.Stat("l"); s.Size != 1<<16 {
		t.Errorf("a whole file has %d bytes", s.Size)
	}

	// The file that is there has its room till the spare one is renamed.
	d = fresh(t, 8+9+8+8)
	l = open(t, d, "l", 1)
	must(t, l.Append([]byte("a")))
	was = state(d)
	if e := l.Rewrite(lists("b")); e != api.ErrSpace || state(d) != was {
		t.Errorf("no space: %d, %s", e, state(d))
	}
	must(t, l.Rewrite(lists("")))
	d.Arm(0)
	if e := l.Rewrite([][]byte{long}); e != api.ErrLong {
		t.Errorf("down, and too long: %d", e)
	}
	if e := l.Rewrite(nil); e != api.ErrDown {
		t.Errorf("down: %d", e)
	}
}

func TestP5_3_OfNil(t *testing.T) {
	for name, l := range map[string]*reclog.Log{"nil": nil, "of no disk": {}} {
		if a, s, w := l.Append([]byte("a")), l.Sync(), l.Rewrite(lists("a")); a != api.ErrDown || s != api.ErrDown || w != api.ErrDown {
			t.Errorf("%s: %d, %d, %d", name, a, s, w)
		}
		long := make([]byte, 4097)
		if a, w := l.Append(long), l.Rewrite([][]byte{long}); a != api.ErrLong || w != api.ErrLong {
			t.Errorf("%s, too long: %d, %d", name, a, w)
		}
	}
}

func TestP5_3_KeepsNothingOfWhatIsHandedIn(t *testing.T) {
	d := fresh(t, 1000)
	l := open(t, d, "l", 1)
	whole := []byte("abcdef")
	must(t, l.Append(whole[:2]), l.Append(whole[2:4]))
	if string(whole) != "abcdef" {
		t.Errorf("a record's room is turned to %q", whole)
	}
	clear(whole)
	open(t, d, "l", 1, "ab", "cd")
	records := [][]byte{[]byte("uv"), []byte("wx")}
	must(t, l.Rewrite(records[:1]))
	if string(records[1]) != "wx" {
		t.Errorf("a list's room is turned to %q", records)
	}
	clear(records[0])
	open(t, d, "l", 1, "uv")
}

func TestP5_3_OneDiskManyLogs(t *testing.T) {
	d := fresh(t, 10000)
	var logs []*reclog.Log
	for i := range 3 {
		logs = append(logs, open(t, d, fmt.Sprint("l", i), byte(math.MaxUint8-i)))
	}
	for i, l := range logs {
		must(t, l.Append([]byte(fmt.Sprint("a", i))), l.Rewrite(lists(fmt.Sprint("b", i))), l.Append([]byte("c")))
	}
	for i := range logs {
		open(t, d, fmt.Sprint("l", i), byte(math.MaxUint8-i), fmt.Sprint("b", i), "c")
		refuses(t, d, fmt.Sprint("l", i), byte(i), api.ErrHeader)
	}
}
