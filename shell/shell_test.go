package shell_test

import (
	"strconv"
	"strings"
	"testing"

	"bellows/api"
	"bellows/shell"
)

// session is a shell, and a test of it.
type session struct {
	t *testing.T
	*shell.Shell
}

func begun(t *testing.T) *session {
	t.Helper()
	s := shell.New()
	if s == nil {
		t.Fatal("New() is nil")
	}
	return &session{t, s}
}

// tells asks a line to tell just this, and an end of line.
func (x *session) tells(line, want string) {
	x.t.Helper()
	if got := x.Line(line); got != want+"\n" {
		x.t.Errorf("%.60q tells %.60q, want %.60q", line, got, want)
	}
}

// silent asks lines to tell nothing.
func (x *session) silent(lines ...string) {
	x.t.Helper()
	for _, line := range lines {
		if got := x.Line(line); got != "" {
			x.t.Errorf("%q tells %q, want nothing", line, got)
		}
	}
}

// ok asks lines to tell that they are done.
func (x *session) ok(lines ...string) {
	x.t.Helper()
	for _, line := range lines {
		x.tells(line, "ok")
	}
}

// wrong asks lines to be none, by this error, and to turn nothing.
func (x *session) wrong(e string, lines ...string) {
	x.t.Helper()
	was := x.state()
	for _, line := range lines {
		x.tells(line, "error "+e)
		if now := x.state(); now != was {
			x.t.Fatalf("%q leaves %q, want %q", line, now, was)
		}
	}
}

// has asks for a file with these bytes.
func (x *session) has(name, want string) {
	x.t.Helper()
	if b, e := x.World().Disk().Read(name); e != api.OK || string(b) != want {
		x.t.Errorf("%s has %.60q, %d, want %.60q", name, b, e, want)
	}
}

// plants writes a file with any bytes, beside the shell.
func (x *session) plants(name, text string) {
	x.t.Helper()
	if e := x.World().Disk().Write(name, []byte(text)); e != api.OK {
		x.t.Fatalf("%s: %d", name, e)
	}
}

// state is all that is to be seen of a shell's disk.
func (x *session) state() string {
	d := x.World().Disk()
	told := strconv.Itoa(d.Deeds()) + strconv.FormatBool(d.Down())
	for _, name := range d.Names() {
		b, _ := d.Read(name)
		s, _ := d.Stat(name)
		told += " " + name + "@" + strconv.Itoa(s.Time) + ":" + string(b)
	}
	return told
}

const rules = "rule rev\n command = rev $in > $out\nrule put\n command = put x > $out\nrule fail\n command = fail > $out\n"

func TestP22_1_Examples(t *testing.T) {
	x := begun(t)
	x.ok("put a x", "more build.ninja rule r")
	x.tells("cat a", "2 : x")
	x.has("a", "x\n")
	x.has("build.ninja", "rule r\n")
}

// TestP22_1_ExamplesOfTheWhole: the ten of them, in order.
func TestP22_1_ExamplesOfTheWhole(t *testing.T) {
	const b = rules + "build b: rev a\n"
	const c = b + "build c: rev b\n"
	x := begun(t)
	x.plants("build.ninja", c)
	x.ok("put a 12")
	x.tells("build", "ran b c")
	x.has("c", "12\n")
	x.tells("build", "ran")
	x.ok("put a 12")
	x.tells("build", "ran b c")
	x.ok("rm b")
	x.tells("build", "ran b c")
	x.ok("more c 3")
	x.tells("build", "ran c")
	x.ok("sync build.ninja", "sync a", "sync c", "sync .deps_log", "up 0 1")
	x.tells("cat b", "1 : ")
	x.tells("build", "ran b c")
	x.ok("sync b", "sync c")
	logged, _ := x.World().Disk().Stat(api.RunsLog)
	x.World().Disk().Cut(api.RunsLog, logged.Size-1)
	x.tells("build", "ran c")
	x.plants("build.ninja", b)
	x.tells("clean", "gone c")
	x.tells("cat c", "error 6")
	x.ok("compact")
	x.plants("build.ninja", c)
	x.tells("build", "ran c")
	x.tells("cat c", "3 : 12")
}

func TestP22_1_Files(t *testing.T) {
	x := begun(t)
	x.tells("ls", "")
	x.ok("put a 1 2  3", "more a 4", "more d/b x", "put c")
	x.has("a", "1 2 3\n4\n")
	x.has("d/b", "x\n")
	x.has("c", "\n")
	x.tells("ls", "a c d/b")
	x.tells("cat a", "8 : 1 2 3")
	x.tells("cat d/b", "2 : x")
	x.tells("cat c", "1 : ")
	x.ok("put a =", "more c", "more c")
	x.has("a", "=\n")
	x.has("c", "\n\n\n")
	x.tells("cat c", "3 : ")
	x.ok("rm a")
	x.tells("ls", "c d/b")
	x.tells("cat a", "error 6")
	x.tells("rm a", "error 6")
	// What a line's first word is may be a name, or a word, too.
	x.ok("put put put rm", "more ls ls", "rm ls", "put 0 0")
	x.has("put", "put rm\n")
	x.tells("ls", "0 c d/b put")
}

// TestP22_1_AnyBytes: a word may have any bytes but blanks, a ; and an end of line, and so has a file that is told.
func TestP22_1_AnyBytes(t *testing.T) {
	var all []byte
	for c := range 256 {
		if !strings.ContainsRune(" \t\r\n;", rune(c)) {
			all = append(all, byte(c))
		}
	}
	x := begun(t)
	x.ok("put a " + string(all) + " \xc2")
	x.has("a", string(all)+" \xc2\n")
	x.tells("cat a", strconv.Itoa(len(all)+3)+" : "+string(all)+" \xc2")
	x.plants("b", " \t;\r\x00\n2")
	x.tells("cat b", "7 :  \t;\r\x00")
	x.plants("b", "")
	x.tells("cat b", "0 : ")
	x.plants("b", "no end")
	x.tells("cat b", "6 : no end")
	x.plants("b", "\n\n")
	x.tells("cat b", "2 : ")
}

func TestP22_1_ErrorsOfFiles(t *testing.T) {
	x := begun(t)
	for _, name := range []string{"/x", "x/", ".", "..", "x/../y", "x//y", "x:y", "é", "\x00", strings.Repeat("a", api.MaxPath+1)} {
		x.tells("put "+name+" 1", "error 5")
		x.tells("more "+name+" 1", "error 5")
		x.tells("rm "+name, "error 5")
		x.tells("sync "+name, "error 5")
		x.tells("cat "+name, "error 6")
	}
	x.tells("rm a", "error 6")
	x.tells("sync a", "error 6")
	x.tells("cat a", "error 6")
	x.tells("ls", "")
}

// TestP22_1_Bounds: a file has at most 2^16 bytes, and a world 2^20, and 200 files.
func TestP22_1_Bounds(t *testing.T) {
	x := begun(t)
	long := strings.Repeat("1", api.MaxFile-1)
	x.tells("put a "+long+"1", "error 3")
	x.tells("more a "+long+"1", "error 3")
	x.tells("ls", "")
	x.ok("put a " + long)
	x.tells("cat a", "65536 : "+long)
	x.tells("more a", "error 3")
	x.has("a", long+"\n")
	for n := range 15 {
		x.ok("put b" + strconv.Itoa(n) + " " + long)
	}
	x.tells("put z", "error 7")
	x.tells("more z", "error 7")
	x.ok("put b0")
	x.ok("put z")
	x = begun(t)
	for n := range api.MaxFiles {
		x.ok("put " + strconv.Itoa(n))
	}
	x.tells("put z", "error 3")
	if told := x.Line("ls"); len(strings.Fields(told)) != api.MaxFiles {
		t.Errorf("ls tells %q", told)
	}
}

// TestP22_1_LinesThatAreNone: nothing is done of any.
func TestP22_1_LinesThatAreNone(t *testing.T) {
	x := begun(t)
	x.plants("build.ninja", rules+"build o: put\n")
	x.ok("put a 1", "sync a", "put b 2")
	x.wrong("16", "foo", "PUT a", "Ls", "puts a", "pu a", "mor a", "l s", "write a 1", "restart 1 1", "read a", "0", "ok", "error", "put\x0ba", "put\x00", "\x00", "ls\x0b", "\xa0ls", "é", "-", "=", "#", "# ls", ":", "\"ls\"")
	x.wrong("16", "put", "more", "rm", "sync", "cat", "rm ; a", "put;a")
	x.wrong("16", "rm a b", "rm a a", "sync a b", "cat a b", "ls a", "ls ls", "clean o", "compact o", "clean 0", "compact 0")
	x.wrong("16", "crash", "crash 1 2", "crash 0 0", "up", "up 1", "up 0", "up 1 2 3", "up 0 0 0")
}

func TestP22_1_Numbers(t *testing.T) {
	x := begun(t)
	x.ok("put a 12345")
	for _, n := range []string{"", "01", "00", "000", "0000000001", "-1", "-0", "+1", "+0", "1000000000", "9999999999", "99999999999999999999", "1e3", "0x1", "1_0", "1.0", "1,0", "a", "1a", "a1", "\u0661", "--1", "'1'", "\xff"} {
		x.wrong("16", "crash "+n, "up 1 "+n, "up "+n+" 1", "up "+n+" "+n)
	}
	// None of these armed it, or restarted it.
	x.ok("more a 6")
	x.tells("cat a", "8 : 12345")
	for _, n := range []string{"1", "9", "10", "100", "999999999", "123456789", "100000000"} {
		x.ok("crash "+n, "up "+n+" "+n, "crash "+n)
		x.ok("more a 7")
	}
	x.ok("up 0 0", "crash 0")
	x.tells("more a 7", "error 8")
	x.ok("up 0 0", "crash 2")
	x.ok("more a 7", "more a 7")
	x.tells("more a 7", "error 8")
}

// TestP22_1_CrashesAndRestarts: n changes of the directory are kept, and of each file the same tail.
func TestP22_1_CrashesAndRestarts(t *testing.T) {
	x := begun(t)
	x.ok("put a 12345", "put b 678", "put c 9", "crash 0")
	// It is up till the next deed.
	x.tells("cat a", "6 : 12345")
	x.tells("rm a", "error 8")
	x.tells("cat a", "error 8")
	x.tells("ls", "")
	x.ok("up 2 3")
	x.tells("ls", "a b")
	x.tells("cat a", "3 : 123")
	x.tells("cat b", "3 : 678")
	x.ok("more a 4", "more b 5", "sync b", "more b 6", "up 0 1")
	x.tells("cat a", "4 : 1234")
	x.tells("cat b", "6 : 6785")
	x.has("b", "6785\n6")
	x.ok("rm a", "rm b", "up 1 0")
	x.tells("ls", "b")
	// One that is up is restarted, too, and one that is down stays down till then.
	x.ok("put c", "up 0 0")
	x.tells("ls", "b")
	x.ok("crash 1", "rm b")
	x.tells("put c", "error 8")
	x.ok("crash 5")
	x.tells("put c", "error 8")
	x.ok("up 0 0", "put c")
	x.tells("ls", "b c")
}

// TestP22_1_Down: each line that asks the disk tells that it is down; a line that is none is told ahead.
func TestP22_1_Down(t *testing.T) {
	x := begun(t)
	x.plants("build.ninja", rules+"build o: put\n")
	x.ok("put a 1", "crash 0")
	x.tells("put a 1", "error 8")
	x.wrong("8", "put a 1", "put /x", "more a 1", "rm a", "rm zz", "rm /x", "sync a", "cat a", "cat zz", "compact")
	x.wrong("8 ran", "build", "build o", "build zz")
	x.wrong("8 gone", "clean")
	x.wrong("16", "put", "rm", "ls a", "foo", "crash 01", "up 1")
	x.wrong("4", "ls\n")
	x.silent("", " ", "; ls")
	x.tells("ls", "")
	x.ok("crash 3", "up 9 9")
	x.tells("ls", "a build.ninja")
}

func TestP22_1_Builds(t *testing.T) {
	x := begun(t)
	x.tells("build", "error 6 ran")
	x.plants("build.ninja", rules+"build c: rev b\nbuild b b2: put || a\nbuild d: rev a\nbuild e: fail | d\ndefault c d\n")
	x.tells("build", "error 6 ran")
	x.ok("put a 12")
	x.tells("build", "ran b c d")
	x.tells("build", "ran")
	x.tells("cat d", "3 : ")
	x.has("d", "\n21")
	x.tells("build e", "error 13 ran")
	x.ok("rm d")
	x.tells("build e", "error 13 ran d")
	x.tells("build a", "ran")
	x.tells("build zz", "error 6 ran")
	x.tells("build d zz", "error 6 ran")
	x.tells("build ./d", "error 6 ran")
	x.ok("rm b2", "rm d")
	x.tells("build d c d", "ran b c d")
	x.tells("build b2", "ran")
	// "ran" tells the first output of each edge, the targets may be any.
	x.ok("rm b2")
	x.tells("build b2", "ran b")
	x.ok("put b", "crash 5")
	x.tells("build", "error 8 ran b")
	x.ok("up 0 0")
	x.plants("build.ninja", "rule r\n")
	x.tells("build", "error 10 ran")
	x.plants("build.ninja", rules+"build a a: put\n")
	x.tells("build", "error 11 ran")
	x.plants("build.ninja", rules+"build a: rev a\n")
	x.tells("build", "error 12 ran")
	x.plants("build.ninja", rules+"build .build_log: put\n")
	x.tells("build", "error 5 ran")
	x.ok("put build.ninja x = 1 ; no edge", "put .build_log x")
	x.tells("build", "error 9 ran")
	x.ok("rm .build_log")
	x.tells("build", "ran")
}

func TestP22_1_Cleans(t *testing.T) {
	x := begun(t)
	x.tells("clean", "error 6 gone")
	x.tells("compact", "error 6")
	x.plants("build.ninja", rules+"build c: put\nbuild a d/b: put\nbuild z: put\n")
	x.ok("put mine")
	x.tells("clean", "gone")
	x.tells("build", "ran c a z")
	x.tells("clean", "gone")
	x.plants("build.ninja", rules+"build z: put\n")
	x.ok("rm c")
	x.tells("clean", "gone a d/b")
	x.tells("ls", ".build_log .deps_log build.ninja mine z")
	x.tells("clean", "gone")
	x.ok("put a", "compact")
	x.tells("clean", "gone")
	x.plants("build.ninja", rules+"build c: put\nbuild b: put\n")
	x.tells("build", "ran c b")
	x.ok("put build.ninja", "crash 2")
	// Two are removed, then it goes down: what was removed is told beside the error.
	x.tells("clean", "error 8 gone b c")
	x.ok("up 9 9")
	x.tells("ls", ".build_log .deps_log a build.ninja mine z")
	x.ok("crash 1")
	x.tells("clean", "error 8 gone z")
	x.ok("up 9 9", "put build.ninja x")
	x.tells("clean", "error 10 gone")
	x.tells("compact", "error 10")
	x.ok("put build.ninja", "crash 3")
	x.tells("compact", "error 8")
}

// TestP22_1_LinesEnds: whatever a line is, one with a line's end is not done.
func TestP22_1_LinesEnds(t *testing.T) {
	x := begun(t)
	x.ok("put a 1")
	x.wrong("4", "\n", "\n\n", " \n", "ls\n", "\nls", "foo\n", "put a 2\n", "put a\n2", "put\na 2", "rm a\nrm a", "; note\n", ";\n", "put a 2 ;\n", "put\n", "crash 01\n", "crash 0\n", "up 0 0\n", "ls\r\n")
	// Other bytes end no line.
	x.tells("ls\r", "a")
	x.tells("cat a\r", "2 : 1")
	x.ok("put a 2\u2028\x0b\x0c\x85")
	x.has("a", "2\u2028\x0b\x0c\x85\n")
}

func TestP22_1_Nothing(t *testing.T) {
	x := begun(t)
	x.silent("", " ", "\t", "\r", " \t\r ", ";", ";;", "; ls", "  ;ls", "\t; put a 1", ";foo")
	x.tells("ls", "")
	x.wrong("16", "\x0b", "\x00", ",", ":")
}

func TestP22_1_NoShell(t *testing.T) {
	x := &session{t, nil}
	for _, line := range []string{"", " ", "; note", "ls", "put a 1", "cat a", "build", "clean", "compact", "crash 0", "up 0 0", "foo", "put", "crash 01"} {
		x.tells(line, "error 8")
	}
	// One that New did not make has no world, which is as one whose disk is down.
	x = &session{t, &shell.Shell{}}
	for _, line := range []string{"put a 1", "more a 1", "rm a", "sync a", "cat a", "compact", "crash 0", "up 0 0"} {
		x.tells(line, "error 8")
	}
	x.tells("build", "error 8 ran")
	x.tells("clean", "error 8 gone")
	x.tells("ls", "")
	x.tells("foo", "error 16")
	x.silent("")
}

func TestP22_1_Shells(t *testing.T) {
	x, y := begun(t), begun(t)
	x.ok("put a 1", "crash 0")
	x.tells("rm a", "error 8")
	y.tells("ls", "")
	y.ok("put b 2")
	x.ok("up 1 9")
	x.tells("ls", "a")
}

func TestP22_1_Run(t *testing.T) {
	for lines, want := range map[string]string{
		"":                             "",
		"\n":                           "",
		"\n\n;\n ; ls\n":               "",
		"ls":                           "\n",
		"ls\n":                         "\n",
		"ls\nls":                       "\n\n",
		"put a b\n\ncat a\nfoo":        "ok\n2 : b\nerror 16\n",
		"put a b\r\ncat a\r\n":         "ok\n2 : b\n",
		"cat a\nput a b\ncat a\n":      "error 6\nok\n2 : b\n",
		"put a 1;\nmore a 2\ncat a;\n": "ok\nok\n4 : 1\n",
		"put build.ninja x = $\nmore build.ninja 1\nbuild\nbuild\nls\ncrash 0\nput a\nup 9 9\nls\nbuild zz": "ok\nok\nran\nran\n.build_log .deps_log build.ninja\nok\nerror 8\nok\n.build_log .deps_log build.ninja\nerror 6 ran\n",
	} {
		for range 2 {
			if told, e := shell.Run(lines); e != api.OK || told != want {
				t.Errorf("Run(%q) = %q, %d, want %q", lines, told, e, want)
			}
		}
	}
}

// TestP22_1_RunsBound: lines may have 2^16 bytes.
func TestP22_1_RunsBound(t *testing.T) {
	const most = 1 << 16
	for _, line := range []string{"\n", ";", " ", "ls\n", "foo\n", "put a\n", "x", "build\n", "\xff"} {
		lines := strings.Repeat(line, most/len(line)+1)
		for _, over := range []int{1, 2, most} {
			if told, e := shell.Run(strings.Repeat(lines, 2)[:most+over]); told != "" || e != api.ErrLong {
				t.Errorf("%d bytes of %q: %.60q, %d", most+over, line, told, e)
			}
		}
		// Up to the bound lines tell what they tell of one shell, line by line.
		for _, size := range []int{most - 1, most} {
			x, want := begun(t), strings.Builder{}
			for _, line := range strings.Split(lines[:size], "\n") {
				want.WriteString(x.Line(line))
			}
			if told, e := shell.Run(lines[:size]); e != api.OK || told != want.String() {
				t.Errorf("%d bytes of %q: %.60q, %d", size, line, told, e)
			}
		}
	}
	told, e := shell.Run(strings.Repeat("ls\n", most/3) + ";")
	if e != api.OK || told != strings.Repeat("\n", most/3) {
		t.Errorf("%d bytes, %d", len(told), e)
	}
	text := strings.Repeat("1", most-len("put a \ncat a\n"))
	if told, e := shell.Run("put a " + text + "\ncat a\n"); e != api.OK || told != "ok\n"+strconv.Itoa(len(text)+1)+" : "+text+"\n" {
		t.Errorf("%.60q, %d", told, e)
	}
}
