package cook_test

import (
	"bytes"
	"fmt"
	"hash/fnv"
	"reflect"
	"slices"
	"strconv"
	"strings"
	"testing"

	"bellows/api"
	"bellows/cook"
)

const most = 1 << 16 // bytes of an output

// of is files of names and bytes, one behind the other.
func of(pairs ...string) []cook.File {
	var files []cook.File
	for i := 0; i < len(pairs); i += 2 {
		files = append(files, cook.File{Name: pairs[i], B: []byte(pairs[i+1])})
	}
	return files
}

// namesOf are the files' names: all of them declared.
func namesOf(files []cook.File) []string {
	var names []string
	for _, f := range files {
		names = append(names, f.Name)
	}
	return names
}

// some are the files that most commands here are done with.
func some() []cook.File {
	return of("a", "one\ntwo", "b", "xyz", "c", "", "x/d.e", "\x00\xff\n", "i", "1\n#include b\n#include x/d.e\n2\n", "z", "not declared")
}

// makes checks what a command makes in its outputs, which have its bytes all alike, when all files but z are declared.
func makes(t *testing.T, command, want string, outs ...string) {
	t.Helper()
	files := some()
	d, e := cook.Cook(command, namesOf(files[:len(files)-1]), files)
	madeOf(t, command, d, e, want, outs...)
}

func madeOf(t *testing.T, command string, d cook.Dish, e api.Errno, want string, outs ...string) {
	t.Helper()
	if e != api.OK || !slices.Equal(namesOf(d.Outs), outs) {
		t.Errorf("Cook(%.60q) = %s, %d, want %q", command, told(d), e, outs)
	}
	for _, out := range d.Outs {
		if string(out.B) != want {
			t.Errorf("Cook(%.60q): %s has %.60q of %d bytes, want %.60q of %d", command, out.Name, out.B, len(out.B), want, len(want))
		}
	}
}

// told is a dish, as a fault tells it.
func told(d cook.Dish) string {
	return fmt.Sprintf("%.60q, once %v, %q, %.60q", d.Outs, d.Once, d.Depfile, d.Deps)
}

// fails checks that a command fails with some files, and that nothing stands beside the error.
func fails(t *testing.T, command string, declared []string, files []cook.File) {
	t.Helper()
	if d, e := cook.Cook(command, declared, files); e != api.ErrCommand || !isNothing(d) {
		t.Errorf("Cook(%.60q) = %s, %d, want nothing, %d", command, told(d), e, api.ErrCommand)
	}
}

func isNothing(d cook.Dish) bool {
	return len(d.Outs) == 0 && !d.Once && d.Depfile == "" && d.Deps == ""
}

// tells checks a command's outputs and depfile.
func tells(t *testing.T, command, deps string, outs ...string) {
	t.Helper()
	if o, d, e := cook.Outputs(command); e != api.OK || d != deps || !slices.Equal(o, outs) {
		t.Errorf("Outputs(%.60q) = %.60q, %q, %d, want %q, %q", command, o, d, e, outs, deps)
	}
}

// formless checks that a command has not the form.
func formless(t *testing.T, command string) {
	t.Helper()
	if o, d, e := cook.Outputs(command); e != api.ErrCommand || len(o) > 0 || d != "" {
		t.Errorf("Outputs(%.60q) = %.60q, %q, %d, want nothing, %d", command, o, d, e, api.ErrCommand)
	}
	fails(t, command, namesOf(some()), some())
}

// hashOf is a hash as a sum tells it, by the library.
func hashOf(s string) string {
	h := fnv.New64a()
	h.Write([]byte(s))
	figures := strconv.FormatUint(h.Sum64(), 16)
	for len(figures) < 16 {
		figures = "0" + figures
	}
	return figures + "\n"
}

func TestP15_1_Verbs(t *testing.T) {
	makes(t, "cat a b > o", "one\ntwoxyz", "o")
	makes(t, "cat b b a b > o", "xyzxyzone\ntwoxyz", "o")
	makes(t, "cat c > o", "", "o")
	makes(t, "cat > o", "", "o")
	makes(t, "cat c x/d.e c > o", "\x00\xff\n", "o")
	makes(t, "rev b > o", "zyx", "o")
	makes(t, "rev a > o", "owt\neno", "o")
	makes(t, "rev c > o", "", "o")
	makes(t, "rev x/d.e > o", "\n\xff\x00", "o")
	makes(t, "put x y > o", "x y\n", "o")
	makes(t, "put x > o", "x\n", "o")
	makes(t, "put > o", "\n", "o")
	makes(t, "put z none : /../ ä > o", "z none : /../ ä\n", "o")
	makes(t, "put put once cat > o", "put once cat\n", "o")
	makes(t, "put x\ty\n\xff > o", "x\ty\n\xff\n", "o")
	makes(t, "put >> -> > o", ">> ->\n", "o")
	// What an include line is to one verb is bytes to the others.
	makes(t, "cat i > o", "1\n#include b\n#include x/d.e\n2\n", "o")
	makes(t, "inc i > o : d", "1\nxyz\x00\xff\n2\n", "o")
	makes(t, "inc b > o : d", "xyz", "o")
	makes(t, "inc c > o : d", "", "o")
}

func TestP15_1_Sum(t *testing.T) {
	makes(t, "sum c > o", "cbf29ce484222325\n", "o")
	makes(t, "sum c c c > o", "cbf29ce484222325\n", "o")
	makes(t, "sum b > o", "bff4aa198026f420\n", "o")
	makes(t, "sum a b > o", hashOf("one\ntwoxyz"), "o")
	makes(t, "sum b a > o", hashOf("xyzone\ntwo"), "o")
	makes(t, "sum b b > o", hashOf("xyzxyz"), "o")
	makes(t, "sum x/d.e > o", hashOf("\x00\xff\n"), "o")
	// A hash whose first figures are 0 has 16 as well.
	noughts := 0
	for i := range 5000 {
		s := "the row " + strconv.Itoa(i) + " of bytes"
		d, e := cook.Cook("sum a > o", []string{"a"}, of("a", s))
		madeOf(t, "sum of "+s, d, e, hashOf(s), "o")
		if hashOf(s)[:2] == "00" {
			noughts++
		}
	}
	if noughts == 0 {
		t.Error("no hash begins with two noughts")
	}
}

func TestP15_1_ManyOutputs(t *testing.T) {
	makes(t, "cat b > o p", "xyz", "o", "p")
	makes(t, "once put x > q p o x/r", "x\n", "q", "p", "o", "x/r")
	makes(t, "sum b > o p", hashOf("xyz"), "o", "p")
	makes(t, "rev b > b a", "zyx", "b", "a")
	makes(t, "inc i > o p q : d", "1\nxyz\x00\xff\n2\n", "o", "p", "q")
	// Names that are words of a command elsewhere.
	makes(t, "put x > once put cat fail", "x\n", "once", "put", "cat", "fail")
	var outs []string
	for i := range 5000 {
		outs = append(outs, "o"+strconv.Itoa(i))
	}
	makes(t, "cat b > "+strings.Join(outs, " "), "xyz", outs...)
	formless(t, "cat b > "+strings.Join(outs, " ")+" o0")
}

func TestP15_1_OnceAndDepfile(t *testing.T) {
	declared := []string{"i"}
	for command, want := range map[string]cook.Dish{
		"put x > o":               {Outs: of("o", "x\n")},
		"once put x > o":          {Outs: of("o", "x\n"), Once: true},
		"once put once > o":       {Outs: of("o", "once\n"), Once: true},
		"inc i > o : d":           {Outs: of("o", "yz"), Depfile: "d", Deps: "o: b x/d\n"},
		"once inc i > p o : x/o.": {Outs: of("p", "yz", "o", "yz"), Once: true, Depfile: "x/o.", Deps: "p: b x/d\n"},
		// Nothing rules out a depfile that is an output, or the argument.
		"inc i > o : o": {Outs: of("o", "yz"), Depfile: "o", Deps: "o: b x/d\n"},
		"inc i > i : i": {Outs: of("i", "yz"), Depfile: "i", Deps: "i: b x/d\n"},
	} {
		d, e := cook.Cook(command, declared, of("i", "#include b\n#include x/d", "b", "y", "x/d", "z"))
		if e != api.OK || !reflect.DeepEqual(d, want) {
			t.Errorf("Cook(%q) = %s, %d, want %s", command, told(d), e, told(want))
		}
	}
	// A depfile without a name that was put in.
	if d, e := cook.Cook("inc i > o : d", declared, of("i", "x")); e != api.OK || d.Depfile != "d" || d.Deps != "o:\n" {
		t.Errorf("nothing put in: %s, %d", told(d), e)
	}
}

func TestP15_1_Blanks(t *testing.T) {
	for _, command := range []string{"once inc  i  >  o  p  :  d", "  once inc i > o p : d", "once inc i > o p : d   ", "   once    inc i >   o    p :    d "} {
		d, e := cook.Cook(command, []string{"i"}, of("i", "x"))
		madeOf(t, command, d, e, "x", "o", "p")
		tells(t, command, "d", "o", "p")
	}
	makes(t, "put  a   b    c  > o", "a b c\n", "o")
	makes(t, "cat   > o", "", "o")
	// No other byte parts words.
	for _, blank := range []string{"\t", "\n", "\r", "\v", "\f", "\u00a0", "\u2003", "\x00"} {
		formless(t, "put a"+blank+"> o")
		formless(t, "put"+blank+"a > o")
		formless(t, "put a >"+blank+"o")
		formless(t, "put a > o"+blank+"p")
		makes(t, "put a"+blank+"b > o", "a"+blank+"b\n", "o")
	}
}

func TestP15_1_NotTheForm(t *testing.T) {
	for _, command := range []string{
		"", " ", "   ", "cat", "cat a", "cat a b", "cat a >", "cat >", "put", "put a", ">", "> o", ">> o", "o", ": d", "cat a o",
		"once", "once >", "once > o", "once a > o", "once once cat a > o", "once once > o", "once foo > o", "cat once a", "a once cat > o",
		"foo a > o", "Cat a > o", "CAT a > o", "cats a > o", "ca a > o", "a > o", "a cat > o", "ä > o", "\xff > o",
		"cat a >o", "cat a> o", "cat a>o", "cata > o", "cat a >> o", "cat a < o", "cat a > > o", "cat a > o >", "cat a > o > p", "put x > : > o", "put > > o", "put x > y > o",
		"cat a > o : d", "rev b > o : d", "sum a > o : d", "put x > o : d", "fail > o : d", "once cat a > o : d", "cat a > o :", "put x : d > o : d",
		"inc a > o", "inc a >", "inc a > :", "inc a > : d", "inc a > o :", "inc a > o : d e", "inc a > o : : d", "inc a > o : d :", "inc a > o : d : e", "inc a > o :d", "inc a > o: d", "inc a > o:d", "inc a : d > o", "inc a : d", "once inc a > o",
	} {
		formless(t, command)
	}
}

func TestP15_1_OutputsAndDepfileArePaths(t *testing.T) {
	long := strings.Repeat("o", 100)
	for _, name := range []string{".", "..", "/", "/o", "./o", "o/", "o//p", "o/../p", "../o", "o/..", "ä", "o$", "o\\", "o\n", "o\t", ":o", "o=", "\"o\"", "#", "o\x00", "\xff", long + "o", strings.Repeat("o", 2000)} {
		formless(t, "cat a > "+name)
		formless(t, "cat a > o "+name)
		formless(t, "cat a > "+name+" o")
		formless(t, "once put > "+name)
		formless(t, "inc a > "+name+" : d")
		formless(t, "inc a > o : "+name)
	}
	makes(t, "put x > "+long+" o/...", "x\n", long, "o/...")
	tells(t, "inc a > "+long+" : "+long, long, long)
	for _, names := range []string{"o o", "o p o", "p o o", "o p q r p", "x/o x/o"} {
		formless(t, "cat a > "+names)
		formless(t, "inc a > "+names+" : d")
	}
	tells(t, "put > o O o/o oo x/o", "", "o", "O", "o/o", "oo", "x/o")
}

func TestP15_1_OutputsOfWhatHasTheForm(t *testing.T) {
	tells(t, "cat a > o", "", "o")
	tells(t, "once inc q > o p : d", "d", "o", "p")
	tells(t, "put > o", "", "o")
	// How many arguments there are, and of what kind, is no part of it.
	for _, command := range []string{"fail > o", "fail x y > o", "once fail > o", "rev > o", "rev a b > o", "sum > o", "cat z > o", "cat none > o", "cat /../ : ä > o", "rev a a > o", "once sum > o", "sum none > o", "sum a none > o", "cat a b none > o", "cat a once > o", "rev : > o", "cat ./a > o", "cat a/ > o"} {
		tells(t, command, "", "o")
		files := some()
		fails(t, command, namesOf(files[:len(files)-1]), files)
	}
	for _, command := range []string{"inc > o : d", "inc a b > o : d", "inc z > o : d", "inc none > o : d", "once inc > o : d", "inc a a > o : d", "inc : > o : d", "inc : a > o : d"} {
		tells(t, command, "d", "o")
		files := some()
		fails(t, command, namesOf(files[:len(files)-1]), files)
	}
}

func TestP15_1_Declared(t *testing.T) {
	files := of("a", "1", "b", "2", "./c", "3", ":", "4")
	for _, verb := range []string{"cat", "rev", "sum"} {
		fails(t, verb+" a > o", nil, files)
		fails(t, verb+" a > o", []string{"b"}, files)
		fails(t, verb+" a > o", []string{"o", "", "a/", "./a", "A"}, files)
		fails(t, verb+" a > o", []string{"a"}, nil)
		fails(t, verb+" a > o", []string{"a", "b"}, files[1:])
		fails(t, verb+" ./a > o", []string{"a", "./a"}, files)
		fails(t, verb+" c > o", []string{"c", "./c"}, files)
	}
	fails(t, "cat a b > o", []string{"a"}, files)
	fails(t, "cat a b > o", []string{"b"}, files)
	fails(t, "cat a b > o", []string{"a", "b"}, files[:1])
	fails(t, "sum a b > o", []string{"a"}, files)
	fails(t, "inc a > o : d", []string{"b", "o", "d"}, files)
	fails(t, "inc a > o : d", []string{"a"}, files[1:])
	for _, declared := range [][]string{{"a"}, {"a", "a"}, {"none", "a", "z"}, {"o", "", "a"}} {
		d, e := cook.Cook("cat a a > o", declared, files)
		madeOf(t, "cat a a > o", d, e, "11", "o")
	}
	// A name is asked for as it is told, path or not.
	d, e := cook.Cook("cat ./c : > o", []string{":", "./c"}, files)
	madeOf(t, "cat ./c : > o", d, e, "34", "o")
	// Words need be nothing.
	d, e = cook.Cook("put a b > o", nil, nil)
	madeOf(t, "put a b > o", d, e, "a b\n", "o")
	d, e = cook.Cook("cat > o", nil, nil)
	madeOf(t, "cat > o", d, e, "", "o")
}

func TestP15_1_TheFirstOfTwoFilesCounts(t *testing.T) {
	files := of("b", "B", "a", "first", "a", "second", "i", "#include a\n", "a", "", "i", "", "c", "", "c", "C")
	for command, want := range map[string]string{"cat a b a > o": "firstBfirst", "rev a > o": "tsrif", "sum a > o": hashOf("first"), "inc i > o : d": "first", "cat c > o": ""} {
		d, e := cook.Cook(command, []string{"a", "b", "c", "i"}, files)
		madeOf(t, command, d, e, want, "o")
	}
}

func TestP15_1_LongOutputs(t *testing.T) {
	x := strings.Repeat("x", most)
	files := of("x", x, "x1", x+"x", "h", x[:most/2], "h1", x[:most/2+1], "1", "x", "c", "", "huge", strings.Repeat("x", 20*most))
	declared := namesOf(files)
	for _, command := range []string{"cat x > o", "cat c x c > o", "cat h h > o", "cat h h c > o", "rev x > o", "put " + x[1:] + " > o", "put " + x[:most/2] + "   " + x[:most/2-2] + " > o", "inc x > o : d", "inc h > o : d"} {
		want := x
		switch command[:5] {
		case "put x":
			want = strings.Join(strings.Fields(strings.TrimSuffix(command[4:], "> o")), " ") + "\n"
		case "inc h":
			want = x[:most/2]
		}
		d, e := cook.Cook(command, declared, files)
		madeOf(t, command, d, e, want, "o")
	}
	for _, command := range []string{"cat x1 > o", "cat x 1 > o", "cat 1 x > o", "cat h h1 > o", "cat x x > o", "cat huge > o", "rev x1 > o", "rev huge > o", "put " + x + " > o", "put " + x[:most/2] + " " + x[:most/2-1] + " > o", "inc x1 > o : d", "inc huge > o : d"} {
		fails(t, command, declared, files)
	}
	// A sum's output is short, whatever it is of.
	d, e := cook.Cook("sum x1 huge x > o", declared, files)
	madeOf(t, "sum", d, e, hashOf(strings.Repeat("x", 22*most+1)), "o")
	// Many arguments end as soon as it is too much.
	fails(t, "cat"+strings.Repeat(" x", 1<<16)+" > o", declared, files)
}

func TestP15_1_Find(t *testing.T) {
	files := of("a", "1", "b", "2", "a", "3", "", "4", "./c", "5", "e", "", "e", "6")
	for name, want := range map[string]string{"a": "1", "b": "2", "": "4", "./c": "5", "e": ""} {
		if b, ok := cook.Find(files, name); !ok || string(b) != want {
			t.Errorf("Find(%q) = %q, %v, want %q", name, b, ok, want)
		}
	}
	for _, name := range []string{"c", "A", "a ", "ab", "./a", "none"} {
		if b, ok := cook.Find(files, name); ok || len(b) > 0 {
			t.Errorf("Find(%q) = %q, %v", name, b, ok)
		}
	}
	for _, none := range [][]cook.File{nil, {}} {
		if b, ok := cook.Find(none, "a"); ok || len(b) > 0 {
			t.Errorf("Find among none = %q, %v", b, ok)
		}
	}
	if b, ok := cook.Find([]cook.File{{Name: "a"}}, "a"); !ok || len(b) > 0 {
		t.Errorf("Find of a file without bytes = %q, %v", b, ok)
	}
	b, _ := cook.Find(files, "a")
	b[0] = 'x'
	if again, _ := cook.Find(files, "a"); string(again) != "1" {
		t.Error("what is found shares its bytes")
	}
}

func TestP15_1_WhatIsHandedInStays(t *testing.T) {
	room := []byte("abcdefgh")
	files := []cook.File{{"a", room[:3]}, {"b", room[3:5]}, {"i", []byte("#include a\nx")}, {"spare", nil}}
	declared := []string{"i", "b", "a", "spare"}
	for _, command := range []string{"cat a b > o p", "rev a > o p", "sum a b > o p", "put a > o p", "inc i > o p : d", "fail a > o", "cat a spare none > o"} {
		cook.Cook(command, declared[:3], files[:3])
		cook.Find(files[:3], "a")
	}
	if string(room) != "abcdefgh" || !slices.Equal(declared, []string{"i", "b", "a", "spare"}) || !slices.Equal(namesOf(files), []string{"a", "b", "i", "spare"}) || string(files[2].B) != "#include a\nx" {
		t.Errorf("what was handed in was turned: %q, %q, %q", room, declared, files)
	}
}

func TestP15_1_WhatIsHandedOutIsNew(t *testing.T) {
	for _, command := range []string{"cat a > o p", "cat a b > o p", "rev a > o p", "sum a > o p", "put a > o p", "inc a > o p : d", "inc i > o p : d"} {
		files := of("a", "abc", "b", "x", "i", "#include a")
		d, e := cook.Cook(command, namesOf(files), files)
		if e != api.OK || len(d.Outs) != 2 {
			t.Fatalf("Cook(%q) = %s, %d", command, told(d), e)
		}
		was := bytes.Clone(d.Outs[1].B)
		for i := range d.Outs[0].B {
			d.Outs[0].B[i]++
		}
		_ = append(d.Outs[0].B, "more"...)
		if !bytes.Equal(d.Outs[1].B, was) || string(files[0].B) != "abc" {
			t.Errorf("Cook(%q): an output shares its bytes: %q, %q", command, d.Outs, files[0].B)
		}
		files[0].B[0], files[2].B[0] = '!', '!'
		if !bytes.Equal(d.Outs[1].B, was) {
			t.Errorf("Cook(%q): an output shares a file's bytes: %q", command, d.Outs)
		}
	}
	outs, _, _ := cook.Outputs("cat a > o p")
	outs[0] = "x"
	tells(t, "cat a > o p", "", "o", "p")
}
