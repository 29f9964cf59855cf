package cook_test

import (
	"strconv"
	"strings"
	"testing"

	"bellows/api"
	"bellows/cook"
)

// includes checks what an inc of the first file makes, with that alone declared, and what it found.
func includes(t *testing.T, files []cook.File, want string, found ...string) {
	t.Helper()
	command := "inc " + files[0].Name + " > o : d"
	d, e := cook.Cook(command, []string{files[0].Name}, files)
	madeOf(t, command, d, e, want, "o")
	deps := "o:"
	for _, name := range found {
		deps += " " + name
	}
	if d.Deps != deps+"\n" || d.Depfile != "d" {
		t.Errorf("inc of %.60q: found %.60q, want %.60q", files[0].B, d.Deps, deps+"\n")
	}
}

// includesNot checks that an inc of the first file fails, and that all others are there for it.
func includesNot(t *testing.T, files []cook.File) {
	t.Helper()
	fails(t, "inc "+files[0].Name+" > o : d", namesOf(files), files)
}

func TestP15_1_LinesThatInclude(t *testing.T) {
	includes(t, of("a", "#include b", "b", "y"), "y", "b")
	includes(t, of("a", "one\n#include c\ntwo", "c", "#include d\nC\n", "d", "D"), "one\nDC\ntwo", "c", "d")
	// The line's end goes with it; that of what is put in stays.
	includes(t, of("a", "#include b\n", "b", "y"), "y", "b")
	includes(t, of("a", "#include b\n\n", "b", "y"), "y\n", "b")
	includes(t, of("a", "#include b", "b", "y\n"), "y\n", "b")
	includes(t, of("a", "#include b\n", "b", "y\n\n"), "y\n\n", "b")
	includes(t, of("a", "x\n#include b\n#include b\nz", "b", "y"), "x\nyyz", "b")
	includes(t, of("a", "\n\n#include b\n\n", "b", "\n"), "\n\n\n\n", "b")
	includes(t, of("a", "#include b\n#include c\n#include b\n", "b", "", "c", ""), "", "b", "c")
	includes(t, of("a", "x#include b\n#include b", "b", "\x00\xff\r"), "x#include b\n\x00\xff\r", "b")
	includes(t, of("a", "#include x/y.z", "x/y.z", "y"), "y", "x/y.z")
	long := strings.Repeat("n", 100)
	includes(t, of("a", "#include "+long, long, "y"), "y", long)
}

func TestP15_1_LinesThatDoNotInclude(t *testing.T) {
	for _, s := range []string{
		"", "\n", "x", "#", "#include", "#include\n", "#include\nb", "#includeb\n", "#include\tb", "#include\u00a0b\n", " #include b\n", "\t#include b", "##include b", "# include b\n", "#Include b", "#INCLUDE b\n", "include b\n", "//#include b", "x #include b\n", "\r#include b\n", "\x00#include b", "#inc b\n", "#includes b", "#\ninclude b\n",
	} {
		includes(t, of("a", s, "b", "y"), s)
		includes(t, of("a", "1\n"+s, "b", "y"), "1\n"+s)
		includes(t, of("a", "#include c\n", "c", s, "b", "y"), s, "c")
	}
}

func TestP15_1_FilesAreReadOneByOne(t *testing.T) {
	// What a line begins and what is put in ends, or the other way round, is no line.
	includes(t, of("a", "#include c\nude d\n", "c", "#incl", "d", "D"), "#include d\n", "c")
	includes(t, of("a", "#include c\nd\n", "c", "#include", "d", "D"), "#included\n", "c")
	includes(t, of("a", "#include c\n#include d\n", "c", "x", "d", "D"), "xD", "c", "d")
	includes(t, of("a", "#include c\n#include d\n", "c", "#include d", "d", "#include e", "e", "E"), "EE", "c", "d", "e")
}

func TestP15_1_FoundInTheOrderInWhichTheyCame(t *testing.T) {
	files := of("a", "#include z\n#include b\n#include z\n#include y\n", "b", "#include y\n#include x\n", "x", "#include z\nX", "y", "Y", "z", "Z")
	includes(t, files, "ZYZXZY", "z", "b", "y", "x")
	// One that puts others in comes ahead of them.
	includes(t, of("a", "#include c\n#include b\n", "b", "", "c", "#include b"), "", "c", "b")
	includes(t, of("m", "#include b\n#include m2\n", "b", "b", "m2", "#include b"), "bb", "b", "m2")
	// Each file's first one alone counts.
	includes(t, of("a", "#include b", "b", "1", "a", "2", "b", "3"), "1", "b")
}

func TestP15_1_NamesThatMayNotBePutIn(t *testing.T) {
	for _, name := range []string{"", " ", " b", "b ", "b b", ".", "..", "/", "/b", "./b", "b/", "c//d", "c/../b", "../b", "b\r", "b\t", "\"b\"", "<b>", "b:", "ä", "\xff", "b\x00", strings.Repeat("n", 101), strings.Repeat("n", 5000)} {
		includesNot(t, of("a", "#include "+name, name, "y", "b", "y"))
		includesNot(t, of("a", "#include "+name+"\n", name, "y", "b", "y"))
		includesNot(t, of("a", "x\n#include b\n#include "+name+"\nx", name, "y", "b", "y"))
		includesNot(t, of("a", "#include c", "c", "#include "+name+"\n", name, "y", "b", "y"))
	}
	includesNot(t, of("a", "#include b"))
	includesNot(t, of("a", "#include b\n#include c\n", "b", ""))
	includesNot(t, of("a", "#include B\n", "b", ""))
	includesNot(t, of("a", "#include b\n", "b", "#include c"))
	// The output, and the depfile, are no files by that alone.
	includesNot(t, of("a", "#include o"))
	includesNot(t, of("a", "#include d"))
	includes(t, of("a", "#include o\n#include d", "o", "1", "d", "2"), "12", "o", "d")
}

// chain is files of which each puts the next one in: n are put in, one within the other.
func chain(n int) (files []cook.File, whole string, found []string) {
	for i := range n {
		files = append(files, of("f"+strconv.Itoa(i), strconv.Itoa(i)+"\n#include f"+strconv.Itoa(i+1)+"\n")...)
		whole += strconv.Itoa(i) + "\n"
		found = append(found, "f"+strconv.Itoa(i+1))
	}
	return append(files, of("f"+strconv.Itoa(n), "end")...), whole + "end", found
}

func TestP15_1_TenWithinOneAnother(t *testing.T) {
	for n := range 11 {
		files, want, found := chain(n)
		includes(t, files, want, found...)
	}
	for _, n := range []int{11, 12, 100, 5000} {
		files, _, _ := chain(n)
		includesNot(t, files)
	}
	// It counts for a file within others, not for one behind them.
	files, want, found := chain(10)
	files[0].B = append(files[0].B, "#include f1\n#include f5\n#include f10\n"...)
	tail := strings.TrimPrefix(want, "0\n")
	includes(t, files, want+tail+tail[strings.Index(tail, "5"):]+"end", found...)
	files[9].B = append(files[9].B, "#include f9\n"...)
	includesNot(t, files)
}

func TestP15_1_FilesThatPutThemselvesIn(t *testing.T) {
	includesNot(t, of("a", "#include a"))
	includesNot(t, of("a", "x\n#include a\n"))
	includesNot(t, of("a", "#include b\n", "b", "#include b\n"))
	includesNot(t, of("a", "#include b\n", "b", "#include a\n"))
	includesNot(t, of("a", "#include b\n", "b", "#include c", "c", "#include b"))
	includesNot(t, of("a", strings.Repeat("#include a\n", 900)))
}

func TestP15_1_ThousandLinesThatInclude(t *testing.T) {
	lines := func(n int) string { return strings.Repeat("#include e\n", n) }
	includes(t, of("a", lines(1000), "e", "x"), strings.Repeat("x", 1000), "e")
	includes(t, of("a", lines(1000), "e", ""), "", "e")
	includesNot(t, of("a", lines(1001), "e", ""))
	includesNot(t, of("a", lines(100000), "e", ""))
	// Those of all that is put in count, as often as it is.
	includes(t, of("a", "#include b\n"+lines(500), "b", lines(499), "e", "x"), strings.Repeat("x", 999), "b", "e")
	includesNot(t, of("a", "#include b\n"+lines(500), "b", lines(500), "e", "x"))
	includes(t, of("a", strings.Repeat("#include b\n", 100), "b", lines(9), "e", "x"), strings.Repeat("x", 900), "b", "e")
	includesNot(t, of("a", strings.Repeat("#include b\n", 100)+lines(1), "b", lines(9), "e", "x"))
	includesNot(t, of("a", strings.Repeat("#include b\n", 10), "b", lines(100), "e", ""))
	// Two by two, ten deep, there are more.
	var tree []cook.File
	for i := range 10 {
		tree = append(tree, of("t"+strconv.Itoa(i), strings.Repeat("#include t"+strconv.Itoa(i+1)+"\n", 2))...)
	}
	includesNot(t, append(tree, of("t10", "")...))
	includes(t, append(tree[2:], of("t10", "y")...), strings.Repeat("y", 256), "t3", "t4", "t5", "t6", "t7", "t8", "t9", "t10")
}

func TestP15_1_LongFilesThatInclude(t *testing.T) {
	x := strings.Repeat("x", most)
	includes(t, of("a", x[2:]+"\n#include b", "b", "y"), x[2:]+"\ny", "b")
	includesNot(t, of("a", x[2:]+"\n#include b", "b", "yz"))
	includes(t, of("a", "#include b\n#include b", "b", x[:most/2]), x, "b")
	includesNot(t, of("a", "#include b\n#include b\n#include b", "b", x[:most/2]))
	includesNot(t, of("a", "#include b\n#include c\n", "b", x, "c", "\n"))
	// What is put in counts, not the lines in the place of which it is.
	includes(t, of("a", strings.Repeat("#include e\n", 900)+x, "e", ""), x, "e")
	includes(t, of("a", "#include b\n#include b", "b", strings.Repeat("#include e\n", 400)+x[:most/2], "e", ""), x, "b", "e")
	includesNot(t, of("a", strings.Repeat("#include e\n", 900)+x+"x", "e", ""))
}

func TestP15_1_LongDepfile(t *testing.T) {
	// It may tell more than a depfile's text that is read.
	var text string
	var found []string
	files := of("a", "")
	for i := range 1000 {
		name := strings.Repeat("n", 96) + strconv.Itoa(1000+i)
		text += "#include " + name + "\n"
		found = append(found, name)
		files = append(files, of(name, "y")...)
	}
	files[0].B = []byte(text)
	includes(t, files, strings.Repeat("y", 1000), found...)
}

func TestP15_1_PutInNeedNotBeDeclared(t *testing.T) {
	files := of("a", "#include b\n#include a2", "b", "B", "a2", "2")
	for _, declared := range [][]string{{"a"}, {"a", "b"}, {"a2", "b", "a"}} {
		d, e := cook.Cook("inc a > o : d", declared, files)
		madeOf(t, "inc a > o : d", d, e, "B2", "o")
	}
	if _, e := cook.Cook("inc a > o : d", []string{"b", "a2"}, files); e != api.ErrCommand {
		t.Errorf("the argument must be declared: %d", e)
	}
}
