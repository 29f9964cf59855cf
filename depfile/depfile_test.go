package depfile_test

import (
	"slices"
	"strconv"
	"strings"
	"testing"

	"bellows/api"
	"bellows/depfile"
)

// parses checks what a text tells.
func parses(t *testing.T, text, out string, deps ...string) {
	t.Helper()
	if o, d, e := depfile.Parse(text); o != out || !slices.Equal(d, deps) || e != api.OK {
		t.Errorf("Parse(%.60q of %d bytes) = %q, %.60q, %d, want %q, %.60q", text, len(text), o, d, e, out, deps)
	}
}

// refused checks that a text is none, and that nothing stands beside the error.
func refused(t *testing.T, text string) {
	t.Helper()
	if o, d, e := depfile.Parse(text); o != "" || len(d) != 0 || e != api.ErrDeps {
		t.Errorf("Parse(%.60q of %d bytes) = %q, %.60q, %d, want nothing, %d", text, len(text), o, d, e, api.ErrDeps)
	}
}

// prints checks one printing, and that nothing stands beside an error.
func prints(t *testing.T, want string, e api.Errno, out string, deps ...string) {
	t.Helper()
	if got, err := depfile.Print(out, deps); got != want || err != e {
		t.Errorf("Print(%.60q, %.60q) = %.60q, %d, want %.60q, %d", out, deps, got, err, want, e)
	}
}

func TestP14_1_Parses(t *testing.T) {
	parses(t, "o: a \\\n b/../c", "o", "a", "c")
	parses(t, "o: a", "o", "a")
	parses(t, "o: a\n", "o", "a")
	parses(t, "o: a b c\n", "o", "a", "b", "c")
	parses(t, "o: c a b\n", "o", "c", "a", "b")
	parses(t, "x/y.o: x/y.c x/y.h\n", "x/y.o", "x/y.c", "x/y.h")
	parses(t, "a-b_c+.D/9: .build_log ...\n", "a-b_c+.D/9", ".build_log", "...")
	// An output may be found, too.
	parses(t, "o: o a o", "o", "o", "a")
}

func TestP14_1_NothingFound(t *testing.T) {
	for _, text := range []string{"o:", "o:\n", "o: ", "o :", " o : \n", "o:\\\n", "o\\\n:\\\n\\\n", "\n\no:\n\n"} {
		parses(t, text, "o")
	}
}

func TestP14_1_Blanks(t *testing.T) {
	for _, text := range []string{
		"o:a b", "o: a b", "o :a b", "o : a b", "o   :   a   b", "  o:  a b  ", "o:a   b\n", "   o   :a b   \n   ",
		"o\\\n:\\\na\\\nb", "\\\no: a b\\\n", "o: a\\\n\\\n\\\nb", "o: a \\\n b", "o: a \\\n   \\\n b", " \\\n \\\n o: a b",
	} {
		parses(t, text, "o", "a", "b")
	}
}

func TestP14_1_LinesThatDoNotCount(t *testing.T) {
	for _, text := range []string{"\no: a", "\n\n\no: a\n\n\n", "  \n o: a\n   \n", "\\\n\no: a\n", "o: a\n\\\n", "o: a\n\\\n\\\n  \\\n", "o: a\\\n\n\n", "\\\n\\\n \n\\\n o: a"} {
		parses(t, text, "o", "a")
	}
}

func TestP14_1_NotOneLine(t *testing.T) {
	for _, text := range []string{
		"", " ", "\n", "\n\n", "   \n  ", "\\\n", " \\\n \\\n\n",
		"o: a\np: b", "o: a\no: a", "o:\na", "o\n:", "o\n: a", "o: a\nb", "o: a\n b", "o: a\\\n\nb", "o:\n:", "o: a\n\n\np:", "o: a\n\\\nb", "\n\\\na\no: b",
	} {
		refused(t, text)
	}
}

func TestP14_1_NotOneOutput(t *testing.T) {
	for _, text := range []string{":", ": a", " : a", ":a", "\\\n: a", "a b: c", "a b :", "a a: b", "a\\\nb: c", "o", "o a", "o a b", "a b", "o\\\n"} {
		refused(t, text)
	}
}

func TestP14_1_AnotherSign(t *testing.T) {
	for _, text := range []string{"o::", "o: :", "o::a", "o: a:", "o: :a", "o: a: b", "o: a : b", "o: a b:", "o: a:b", "o:a:b", "o:\\\n:", "::", ": :", ":o:", "o : : a", "a:b: c", "o: a:\\\nb"} {
		refused(t, text)
	}
}

func TestP14_1_NamesAreCleaned(t *testing.T) {
	parses(t, "./o: ./a", "o", "a")
	parses(t, "x/../o: a/ a//b a/./c d/e/../../f", "o", "a", "a/b", "a/c", "f")
	parses(t, ".//x//y/: ...", "x/y", "...")
	for _, name := range []string{"/", "/a", ".", "..", "../a", "a/..", "a/../..", "./", "./..", "ä", "a$b", "a,b", "a|b", "a=b", "#a", "~", "a\\", "\\a", "a\\b", "\\", "\"a\"", "a\tb", "\t", "a\r", "\x00", "\xff", "a\x7f"} {
		refused(t, name+": a")
		refused(t, name+":")
		refused(t, "o: "+name)
		refused(t, "o: a "+name+" b")
		refused(t, "o: a a "+name+" \n")
	}
}

func TestP14_1_BackslashAheadOfAnEndAlone(t *testing.T) {
	for _, text := range []string{"o: a\\", "o: a \\", "o:\\", "\\o: a", "o: \\a", "o: a\\ b", "o: a\\\\\nb", "o: a \\\\\n b", "o: a\\ \nb", "o: a\\\r\n", "o: a \\ \n", "o\\: a", "o\\:"} {
		refused(t, text)
	}
	parses(t, "o: a\\\nb", "o", "a", "b")
	// It parts a word, too.
	parses(t, "o: ab\\\ncd", "o", "ab", "cd")
	refused(t, "o\\\np: a")
}

func TestP14_1_EachByte(t *testing.T) {
	const inNames = "abcdefghijklmnopqrstuvwxyzABCDEFGHIJKLMNOPQRSTUVWXYZ0123456789._-+/"
	for c := range 256 {
		one := string([]byte{byte(c)})
		between := "o: a" + one + "b"
		ahead := "x" + one + "o: a"
		switch {
		case strings.Contains(inNames, one):
			parses(t, between, "o", "a"+one+"b")
			parses(t, ahead, "x"+one+"o", "a")
		case c == ' ':
			parses(t, between, "o", "a", "b")
			refused(t, ahead)
		default:
			refused(t, between)
			refused(t, ahead)
		}
		if c != ' ' && c != '\n' {
			// No other byte is a blank, so a line that has it counts.
			refused(t, one+" \no: a")
		}
	}
}

func TestP14_1_EachNameOnce(t *testing.T) {
	parses(t, "o: a a", "o", "a")
	parses(t, "o: a b a c b a", "o", "a", "b", "c")
	parses(t, "o: b ./a x/../b a b/ .//a", "o", "b", "a")
	parses(t, "o: a \\\n a \\\n b \\\n a", "o", "a", "b")
	parses(t, "o: ab a b AB Ab a/b ab", "o", "ab", "a", "b", "AB", "Ab", "a/b")
	text, want := "o:", []string(nil)
	for i := range 1000 {
		name := strconv.Itoa(i * 7919 % 1000)
		text += " " + name + " 0 " + name
		want = append(want, name)
	}
	parses(t, text, "o", want...)
}

func TestP14_1_LongTexts(t *testing.T) {
	const most = 1 << 14
	for _, around := range [][2]string{{"o: a", " b"}, {"", "o: a b"}, {"o", ": a b"}, {"o: a b", ""}} {
		for _, filler := range []string{" ", "\\\n"} {
			room := most - len(around[0]) - len(around[1])
			text := around[0] + strings.Repeat(filler, room/len(filler)) + around[1]
			parses(t, text, "o", "a", "b")
			refused(t, text+strings.Repeat(" ", most+1-len(text)))
		}
	}
	parses(t, "o: a"+strings.Repeat("\n", most-4), "o", "a")
	refused(t, "o: a"+strings.Repeat("\n", most-3))
	refused(t, "o: a"+strings.Repeat("\n", 1<<20))
	// What stands there counts, not what is left of it.
	parses(t, "o:"+strings.Repeat(" a", (most-2)/2), "o", "a")
	refused(t, "o:"+strings.Repeat(" a", most/2))
}

func TestP14_1_LongNames(t *testing.T) {
	whole := strings.Repeat("a", 100)
	parses(t, whole+": "+whole, whole, whole)
	refused(t, whole+"a: b")
	refused(t, "o: "+whole+"a")
	parses(t, "o: "+strings.Repeat("a/../", 199)+"b", "o", "b")
	parses(t, strings.Repeat("./", 499)+"o: a", "o", "a")
	parses(t, "o: a"+strings.Repeat("/", 999), "o", "a")
	refused(t, "o: a"+strings.Repeat("/", 1000))
	refused(t, strings.Repeat("./", 500)+"o: a")
}

func TestP14_1_WhatIsHandedOutIsNew(t *testing.T) {
	text := "o: a b"
	_, first, _ := depfile.Parse(text)
	_, second, _ := depfile.Parse(text)
	first[0] = "x"
	if second[0] != "a" {
		t.Error("two answers share a list")
	}
	parses(t, text, "o", "a", "b")
}

func TestP14_2_Prints(t *testing.T) {
	prints(t, "o:\n", api.OK, "o")
	prints(t, "o: a\n", api.OK, "o", "a")
	prints(t, "o: a b/c\n", api.OK, "o", "a", "b/c")
	prints(t, "x/o.d: c b a .build_log ...\n", api.OK, "x/o.d", "c", "b", "a", ".build_log", "...")
	// All are told, those that were told ahead as well.
	prints(t, "o: o a o a\n", api.OK, "o", "o", "a", "o", "a")
	if got, e := depfile.Print("o", []string{}); got != "o:\n" || e != api.OK {
		t.Errorf("Print of an empty list = %q, %d", got, e)
	}
	long := strings.Repeat("a", 100)
	prints(t, long+": "+long+"\n", api.OK, long, long)
}

func TestP14_2_NoPath(t *testing.T) {
	for _, name := range []string{"", " ", "a b", "a ", " a", ".", "..", "/", "/a", "./a", "a/", "a//b", "a/../b", "../a", "a:", ":", "a\n", "\n", "\\\n", "a\\", "ä", "\xff", "a\x00", strings.Repeat("a", 101), strings.Repeat("a", 1001)} {
		prints(t, "", api.ErrName, name)
		prints(t, "", api.ErrName, name, "a", "b")
		prints(t, "", api.ErrName, "o", name)
		prints(t, "", api.ErrName, "o", "a", "b", name)
		prints(t, "", api.ErrName, "o", name, "b")
		prints(t, "", api.ErrName, name, name)
	}
}

func TestP14_2_ManyNames(t *testing.T) {
	var deps []string
	want := "o:"
	for i := range 6001 {
		deps = append(deps, "n"+strconv.Itoa(i))
		want += " n" + strconv.Itoa(i)
		if len(want) > 1<<14 && i%2000 == 0 {
			// A text may grow longer than one that is read.
			prints(t, want+"\n", api.OK, "o", deps...)
			refused(t, want+"\n")
		}
	}
	prints(t, want+"\n", api.OK, "o", deps...)
}

func TestP14_2_WhatIsHandedInStays(t *testing.T) {
	room := []string{"b", "a", "b", "x"}
	deps := room[:3]
	prints(t, "o: b a b\n", api.OK, "o", deps...)
	prints(t, "", api.ErrName, "", deps...)
	if !slices.Equal(room, []string{"b", "a", "b", "x"}) {
		t.Errorf("names that were handed in, or the room behind them, were turned: %q", room)
	}
}
