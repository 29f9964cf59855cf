package manifest_test

import (
	"slices"
	"strconv"
	"strings"
	"testing"

	"bellows/api"
	"bellows/manifest"
)

// r is a rule that is handed on to most texts.
const r = "rule r\n command = c\n"

// same: do two manifests tell the same?
func same(a, b manifest.Manifest) bool {
	return slices.Equal(a.Defaults, b.Defaults) && slices.EqualFunc(a.Edges, b.Edges, func(a, b manifest.Edge) bool {
		return slices.Equal(a.Outs, b.Outs) && slices.Equal(a.Ins, b.Ins) && slices.Equal(a.Implicit, b.Implicit) &&
			slices.Equal(a.Order, b.Order) && a.Command == b.Command && a.Depfile == b.Depfile
	})
}

// parsed is what a text that has the form tells.
func parsed(t *testing.T, text string) manifest.Manifest {
	t.Helper()
	m, number, e := manifest.Parse(text)
	if number != 0 || e != api.OK {
		t.Fatalf("Parse(%.300q): %d, %d", text, number, e)
	}
	return m
}

// parses checks what a text tells.
func parses(t *testing.T, text string, want manifest.Manifest) {
	t.Helper()
	if m := parsed(t, text); !same(m, want) {
		t.Errorf("Parse(%.300q) = %.300q, want %.300q", text, m, want)
	}
}

// fails checks the line at which a text is wrong, and that nothing stands beside the error.
func fails(t *testing.T, text string, number int, e api.Errno) {
	t.Helper()
	m, at, err := manifest.Parse(text)
	if at != number || err != e || m.Edges != nil || m.Defaults != nil {
		t.Errorf("Parse(%.300q) = %.300q, %d, %d, want nothing, %d, %d", text, m, at, err, number, e)
	}
}

// one is the only edge of a text.
func one(t *testing.T, text string) manifest.Edge {
	t.Helper()
	m := parsed(t, text)
	if len(m.Edges) != 1 {
		t.Fatalf("Parse(%.300q) has %d edges", text, len(m.Edges))
	}
	return m.Edges[0]
}

// commanded checks the command of a text's only edge.
func commanded(t *testing.T, text, want string) {
	t.Helper()
	if got := one(t, text).Command; got != want {
		t.Errorf("Parse(%.300q): the command is %.300q, want %.300q", text, got, want)
	}
}

func edges(all ...manifest.Edge) manifest.Manifest { return manifest.Manifest{Edges: all} }

func names(all ...string) []string { return all }

func TestP11_1_Example(t *testing.T) {
	parses(t, "rule cc\n  command = cat $in > $out\nbuild a: cc b c\n",
		edges(manifest.Edge{Outs: names("a"), Ins: names("b", "c"), Command: "cat b c > a"}))
}

func TestP11_1_NothingIsRead(t *testing.T) {
	for _, text := range []string{"", "\n", "\n\n\n", "# rule\n", "   \n  # build a\n", "x = 1", "x = 1\ny=\n"} {
		parses(t, text, manifest.Manifest{})
	}
	parses(t, r, manifest.Manifest{})
	parses(t, "rule r\n command = $;$\n", manifest.Manifest{}) // nobody asks for it
}

func TestP11_1_AllParts(t *testing.T) {
	parses(t, "rule one\n  command = 1 $in > $out\n\nrule two\n  description = D\n  depfile = $out.d\n  command = 2\n"+
		"build a b: one c d | e f || g h\n# a remark\nbuild i : two\ndefault a\nbuild j:one a|b||c\nbuild k: one || l\nbuild m: one | n\ndefault i j\n",
		manifest.Manifest{
			Edges: []manifest.Edge{
				{Outs: names("a", "b"), Ins: names("c", "d"), Implicit: names("e", "f"), Order: names("g", "h"), Command: "1 c d > a b"},
				{Outs: names("i"), Command: "2", Depfile: "i.d"},
				{Outs: names("j"), Ins: names("a"), Implicit: names("b"), Order: names("c"), Command: "1 a > j"},
				{Outs: names("k"), Order: names("l"), Command: "1  > k"},
				{Outs: names("m"), Implicit: names("n"), Command: "1  > m"},
			},
			Defaults: names("a", "i", "j"),
		})
}

func TestP11_1_PartsMayBeEmpty(t *testing.T) {
	want := edges(manifest.Edge{Outs: names("a"), Command: "c"})
	for _, behind := range []string{"", " |", " ||", " | ||", "| ||", "||", " $\n", " $\n |"} {
		parses(t, r+"build a: r"+behind+"\n", want)
	}
	want.Edges[0].Ins = names("b")
	for _, behind := range []string{"", "|", "||", " | ||"} {
		parses(t, r+"build a: r b"+behind, want)
	}
}

func TestP11_1_SameNamesTwice(t *testing.T) {
	// That one file is made twice is for a later layer to tell.
	parses(t, r+"build a a: r a a | a a || a a\nbuild a: r\ndefault a a\ndefault a none\n", manifest.Manifest{
		Edges: []manifest.Edge{
			{Outs: names("a", "a"), Ins: names("a", "a"), Implicit: names("a", "a"), Order: names("a", "a"), Command: "c"},
			{Outs: names("a"), Command: "c"},
		},
		Defaults: names("a", "a", "a", "none"),
	})
}

func TestP11_1_PathsAreExpandedAndCleaned(t *testing.T) {
	parses(t, r+"d = ./x//\nn = b\nbuild $d/a ${n}.o $n$n: r $d$n/../q | ./$n || $d$d/../..//$d$n\ndefault $d/a y/../$n$\n $n\n", manifest.Manifest{
		Edges:    []manifest.Edge{{Outs: names("x/a", "b.o", "bb"), Ins: names("x/q"), Implicit: names("b"), Order: names("x/b"), Command: "c"}},
		Defaults: names("x/a", "bb"),
	})
	// What is expanded to two words is one name, and none that may be.
	fails(t, r+"n = a b\nbuild $n: r", 4, api.ErrParse)
	fails(t, r+"build a$ b: r", 3, api.ErrParse)
	fails(t, r+"build a: r b$:c", 3, api.ErrParse)
	fails(t, r+"n = |\nbuild a: r $n", 4, api.ErrParse)
	fails(t, r+"default $none", 3, api.ErrParse)
}

func TestP11_1_TheFilesScopeAsItIsThen(t *testing.T) {
	parses(t, r+"x = 1\nbuild a$x: r b$x\ndefault d$x\nx = 2\nbuild a$x: r b$x\ndefault d$x\nx = $x$x\nbuild a$x: r\n", manifest.Manifest{
		Edges: []manifest.Edge{
			{Outs: names("a1"), Ins: names("b1"), Command: "c"},
			{Outs: names("a2"), Ins: names("b2"), Command: "c"},
			{Outs: names("a22"), Command: "c"},
		},
		Defaults: names("d1", "d2"),
	})
}

func TestP11_1_NamesInTheFile(t *testing.T) {
	for line, want := range map[string]string{
		"x=1":                "1",
		"x = 1":              "1",
		"x   =   1   ":       "1",
		"x = a=b = c":        "a=b = c",
		"x = a:b|c||d":       "a:b|c||d",
		"x = $ a$ ":          " a ",
		"x = $$in":           "$in",
		"x = $y":             "old",
		"x = $x":             "older",
		"x = ${y}er$x":       "olderolder",
		"x = ":               "",
		"x =":                "",
		"x = # 1":            "# 1",
		"x = build a: r":     "build a: r",
		"x = 1 $\n  2":       "1 2",
		"x $\n = 1":          "1",
		"x = $none":          "",
		"x = a  b":           "a  b",
		"x = 1\nx = 2":       "2",
		"x = 1\nx =":         "",
		"x = 1\n\nx = $x$$x": "1$x",
	} {
		commanded(t, "y = old\nx = older\n"+line+"\nrule r\n command = <$x>\nbuild a: r", "<"+want+">")
	}
	for _, name := range []string{"rule", "build", "default", "a.b-c_9", "-", "9"} {
		commanded(t, name+"=1\nrule r\n command = ${"+name+"}\nbuild a: r", "1")
	}
}

func TestP11_1_WrongLinesAtTheLeft(t *testing.T) {
	for _, line := range []string{
		"x", "x y", "x :", "= 1", "x y = 1", "$x = 1", "x$ = 1", "x: = 1", "x/y = 1", "x+ = 1", "| = 1", "x| = 1", "${x} = 1",
		"x = $;", "x = a${b", "x = $.", "x = ${}", "$\n", "$\n$\n x", "$$", "a # b",
		"Rule s", "rules s", "RULE s\n command = c", "$rule s", "rul$ e s", "builda: r", "build$ a: r", "defaults a", "Build a: r", "\"build\" a: r",
		"rule", "rule s t", "rule $s", "rule s/t", "rule s+", "rule s:", "rule :", "rule |", "rule ||", "rule: s", "rule | s", "rule s = 1", "rule = 1", "rule s#", "rule $ s", "rule s $\n t", "rule $", "rule r", "rule  $\nr",
		"build", "build a", "build a r", "build :", "build : r", "build: r", "build :r a", "build a:", "build a :", "build a: :", "build a: |", "build a: ||", "build a: r:", "build a: r : b", "build a: r b : c", "build a: r | b : c", "build a: r || b : c", "build = 1", "build a = 1",
		"build a: s", "build a: R", "build a: $r", "build a: r$", "build a: r/", "build a: | r", "build a: b r", "build a$: r", "build a:$ r",
		"build | a: r", "build a |: r", "build a | b: r", "build || a: r", "build a ||: r", "build a || b: r", "build a|:r", "build a | : r",
		"build a: r | b | c", "build a: r || b | c", "build a: r || b || c", "build a: r|||", "build a: r||||", "build a: r | |", "build a: r || | b", "build a: r | b || c || d", "build a: r | b || c | d", "build a: r | b || c : d",
		"build /a: r", "build ..: r", "build .: r", "build a/..: r", "build a,: r", "build a b/../..: r", "build a: r /", "build a: r b ../c", "build a: r | .", "build a: r || a*b", "build a$ b: r", "build a$; b: r", "build a: r $;", "build a: r ${", "build a: r $$", "build a=1: r",
		"default", "default $\n", "default :", "default a : b", "default a:", "default |", "default a | b", "default a || b", "default /a", "default a ..", "default a $; b", "default $;", "default $none", "default = 1", "default a=1", "default: a",
	} {
		fails(t, line, 1, api.ErrParse)
		fails(t, r+line, 3, api.ErrParse)
		fails(t, r+"x = 1\n\n# remark\n"+line+"\nrule\ny", 6, api.ErrParse)
		fails(t, r+"build o: r i\n x = 1\n"+line+"\n y", 5, api.ErrParse)
		fails(t, "x = 1$\n\n"+r+line+"\n"+r, 5, api.ErrParse)
	}
}

func TestP11_1_EachByteOfAName(t *testing.T) {
	for c := range 256 {
		if c < ' ' || c > '~' {
			continue
		}
		one := string([]byte{byte(c)})
		right := strings.Contains("abcdefghijklmnopqrstuvwxyzABCDEFGHIJKLMNOPQRSTUVWXYZ0123456789_-.", one)
		for _, text := range []string{"x" + one + "y = 1", "rule x" + one + "y\n command = c", r + "build a: r\n x" + one + "y = 1"} {
			switch {
			case right:
				parsed(t, text)
			case one == "=" && !strings.HasPrefix(text, "rule x"):
				parsed(t, text) // it parts the name from the text
			default:
				if _, number, e := manifest.Parse(text); number == 0 || e != api.ErrParse {
					t.Errorf("Parse(%q): %d, %d", text, number, e)
				}
			}
		}
	}
}

func TestP11_1_RulesTexts(t *testing.T) {
	for lines, want := range map[string]string{
		" command = c":                                "c",
		"     command=c   ":                           "c",
		" command = $ c$ ":                            " c ",
		" command = a = b":                            "a = b",
		" command == c":                               "= c",
		" command = # c":                              "# c",
		" command = a: b | c || d":                    "a: b | c || d",
		" command = $$in $:$|":                        "$in :|",
		" command = c\n command = d":                  "d",
		" command =\n command = d":                    "d",
		" command = $;\n command = d":                 "d",
		" command = c\n\n# remark\n  description = $": "c",
		" command = c\n description =":                "c",
		" command = c\n description = $;":             "c",
		" description = d\n command = c":              "c",
		" depfile =\n command = c":                    "c",
		" command = c $\n     d$\ne":                  "c de",
		" command = $in$in":                           "i ji j",
		" command = $command$depfile$description.":    ".",
	} {
		e := one(t, "rule r\n"+lines+"\n\nbuild o: r i j | k || l")
		if e.Command != want || e.Depfile != "" {
			t.Errorf("a rule with %q: the command is %q, the depfile %q, want %q", lines, e.Command, e.Depfile, want)
		}
	}
	for lines, want := range map[string]string{
		" depfile = d":                  "d",
		" depfile = ./a//b/../$out.d":   "a/o.d",
		" depfile = d\n depfile = e":    "e",
		" depfile = d\n depfile =":      "",
		" depfile = /d\n depfile = e":   "e",
		" depfile = $none":              "",
		" depfile = $none$none":         "",
		" depfile = ${in}.d":            "i.d",
		" depfile = a$\n  b":            "ab",
		" depfile = $d":                 "late",
		" depfile = ${d}/$\n ../x":      "x",
		" description = d\n depfile= +": "+",
	} {
		e := one(t, "rule r\n"+lines+"\n command = c\nbuild o: r i\nd = late")
		if e.Command != "c" || e.Depfile != want {
			t.Errorf("a rule with %q: the command is %q, the depfile %q, want %q", lines, e.Command, e.Depfile, want)
		}
	}
}

func TestP11_1_WrongLinesOfARule(t *testing.T) {
	for _, line := range []string{"other = 1", "Command = c", "command c", "command", "= c", "in = 1", "out = 1", "commands = 1", "command x = 1", "x command = 1", "rule s", "rule = 1", "build a: r", "build = 1", "default a", "$command = c", "command$ = c", "depfile", "depfile: = d", "rspfile = a", "DESCRIPTION = d", "generator = 1", "restat = 1", "$\n", "x = $;"} {
		fails(t, "rule r\n "+line, 2, api.ErrParse)
		fails(t, "rule r\n      "+line+"\n command = c\n", 2, api.ErrParse)
		fails(t, "rule r\n command = c\n\n "+line+"\nbuild a: r", 4, api.ErrParse)
		fails(t, "rule r\n command = $;\n depfile = /\n "+line+"\nbuild a: r", 4, api.ErrParse)
	}
}

func TestP11_1_RulesWithoutACommand(t *testing.T) {
	// It is wrong in its own line, but later inner lines are looked at ahead of it, and it ahead of the next one at the left.
	for text, number := range map[string]int{
		"rule s":                      1,
		"\n\nrule s\n":                3,
		"x = 1\nrule s\n# remark\n\n": 2,
		"rule s\n description = d":    1,
		"rule s\n depfile = d\n description = d\n":     1,
		"rule s\n command =":                           1,
		"rule s\n command =   \n":                      1,
		"rule s\n command = $\n":                       1,
		"rule s\n command = c\n command =":             1,
		"rule s\n command = c\n depfile = d\n command": 4,
		"rule s\n\n other = 1":                         3,
		"rule s\n command\nrule t":                     2,
		"rule s\nx":                                    1,
		"rule s\nx = $;":                               1,
		"rule s\nbuild a":                              1,
		"rule s\nbuild a: none":                        1,
		"rule s\nrule s":                               1,
		"rule s\nrule t\n command = c":                 1,
		"rule s\ndefault":                              1,
		"rule s\n$\n":                                  1,
		"rule s\nrule t":                               1,
		r + "\nrule s\nrule r\n":                       4,
		r + "build a: s\nrule s":                       3,
		r + "rule r\nrule s":                           3,
		"rule s\n depfile = d\n$\n = 1":                1,
	} {
		fails(t, text, number, api.ErrParse)
	}
	// Its text may be empty only later on.
	fails(t, "rule s\n command = $x\nx =\nbuild a: s", 4, api.ErrParse)
	parsed(t, "rule s\n command = $x\nx =\n")
}

func TestP11_1_InnerLinesWithoutALineToStandBehind(t *testing.T) {
	for text, number := range map[string]int{
		" x = 1":                                     1,
		"\n# remark\n\n command = c":                 4,
		"x = 1\n y = 1":                              2,
		"x = 1\n\n command = c":                      3,
		r + "x = 1\n command = c":                    4,
		r + "default a\n x = 1":                      4,
		r + "build a: r\n\nx = 1\n y = 1":            6,
		r + "build a: r\n y = 1\ndefault a\n z = 1":  6,
		r + "build = 1\n x = 1":                      3,
		r + "build=1\n x = 1":                        4,
		r + "rule=1\n command = c":                   4,
		r + "default=1\n x = 1":                      4,
		" build a: r":                                1,
		"  rule r\n  command = c":                    1,
		r + " build a: r":                            3,
		r + "x$\n = 1\n y = 1":                       5,
		r + "build a: r\n x = 1\n$\nz = 1\n  y = 1":  7,
		r + "build a: r\n x = 1\nbuild\n=1\n  y = 1": 5,
	} {
		fails(t, text, number, api.ErrParse)
	}
}

func TestP11_1_NamesOfAnEdge(t *testing.T) {
	for lines, want := range map[string]string{
		"":                                   "file",
		" x = own":                           "own",
		" x=own":                             "own",
		" x =":                               "",
		" x = a\n x = b":                     "b",
		" x = $x$x":                          "filefile",
		" x = own\n x = $x":                  "file",
		" y = own\n x = $y":                  "",
		" y = own\n x = $x":                  "file",
		" x = $in$out":                       "",
		" x = $$in":                          "$in",
		" x = $ a = b ":                      " a = b",
		"\n\n# remark\n  x = a $\n  b":       "a b",
		" x = own\n rule = 1\n build = 2":    "own",
		" build = 1\n default = 2\n x = own": "own",
		" command = 1\n depfile = /":         "file",
	} {
		text := "x = file\nrule r\n command = <$x>\nbuild a: r b\n" + lines
		commanded(t, text, "<"+want+">")
		// What one edge is told no other one has, nor has it the file.
		m := parsed(t, text+"\nbuild b: r\nz = <$x>\nrule s\n command = $z\nbuild c: s\n")
		if m.Edges[0].Command != "<"+want+">" || m.Edges[1].Command != "<file>" || m.Edges[2].Command != "<file>" {
			t.Errorf("Parse of %q and more: %q", text, m)
		}
	}
	for name, want := range map[string]string{"rule": "1", "build": "1", "default": "1", "command": "1", "depfile": "1", "description": "1", "in": "i", "out": "o", "In": "1"} {
		commanded(t, "rule s\n command = ${"+name+"}\nbuild o: s i\n "+name+" = 1", want)
		commanded(t, name+"=1\nrule s\n command = ${"+name+"}\nbuild o: s i", want)
		commanded(t, "rule s\n command = ${"+name+"}\nbuild o: s i\n"+name+"=1", want)
	}
}

func TestP11_1_WrongLinesOfAnEdge(t *testing.T) {
	for _, line := range []string{"x", "x y = 1", "= 1", "$x = 1", "x: = 1", "x = $;", "x = ${", "x = a $$$;", "rule s", "build b: r", "default a", "build b: r | x = 1", "$\n", "x$ = 1"} {
		fails(t, r+"build a: r\n "+line, 4, api.ErrParse)
		fails(t, r+"build a: r\n   "+line+"\n y\n", 4, api.ErrParse)
		fails(t, r+"build a: r\n x = 1\n\n "+line+"\nbuild", 6, api.ErrParse)
		fails(t, "rule r\n command = $;\nbuild a: r\n x = 1\n "+line, 5, api.ErrParse)
	}
}

func TestP11_1_FileAtTheEnd(t *testing.T) {
	parses(t, "x = 1\nrule r\n command = $x $y $in > $out\n depfile = $x.d\nbuild a$x: r b$x\n y = $x\nx = 2\nbuild a$x: r b$x\n y = $x\nx = 3\ny = 4\nbuild a$x: r\n", edges(
		manifest.Edge{Outs: names("a1"), Ins: names("b1"), Command: "3 1 b1 > a1", Depfile: "3.d"},
		manifest.Edge{Outs: names("a2"), Ins: names("b2"), Command: "3 2 b2 > a2", Depfile: "3.d"},
		manifest.Edge{Outs: names("a3"), Command: "3 4  > a3", Depfile: "3.d"},
	))
}

func TestP11_1_InAndOut(t *testing.T) {
	rule := "rule s\n command = $in > $out\n"
	commanded(t, rule+"build ./a b: s c d//e | f || g\n", "c d/e > a b")
	commanded(t, rule+"build a: s\n", " > a")
	commanded(t, rule+"build a: s b\n in = 1\n out = 2\n", "b > a")
	commanded(t, "in = 1\nout = 2\n"+rule+"build a: s b\nin = 3\nout = 4", "b > a")
	commanded(t, "in = i\nout = o\n"+rule+"build $out: s $in\n in = $in$in", "i > o")
	// In lines they stand for what they were set to, for nothing else.
	commanded(t, "rule s\n command = $x\nbuild a: s b\n x = <$in$out>\n", "<>")
	commanded(t, "in = 1\nrule s\n command = $x\nbuild a: s b\n in = 2\n x = <$in$out>\n", "<1>")
	fails(t, "rule s\n command = $in\nbuild a: s | b || c\n", 3, api.ErrParse)
}

func TestP11_1_CommandsAndDepfilesAtTheEnd(t *testing.T) {
	for lines, e := range map[string]api.Errno{
		" command = $;":                   api.ErrParse,
		" command = a $$$.":               api.ErrParse,
		" command = $.":                   api.ErrParse,
		" command = $none":                api.ErrParse,
		" command = ${none}$none":         api.ErrParse,
		" command = c\n depfile = $;":     api.ErrParse,
		" command = c\n depfile = /d":     api.ErrParse,
		" command = c\n depfile = ..":     api.ErrParse,
		" command = c\n depfile = a b":    api.ErrParse,
		" command = c\n depfile = $ ":     api.ErrParse,
		" command = c\n depfile = .":      api.ErrParse,
		" command = c\n depfile = $out:":  api.ErrParse,
		" command = c\n depfile = $long":  api.ErrParse,
		" command = c\n depfile = $big":   api.ErrParse,
		" command = c\n depfile = $h$h.":  api.ErrLong,
		" command = $h$h.":                api.ErrLong,
		" command = $h$h.\n depfile = /":  api.ErrLong,
		" command = $none\n depfile = $h": api.ErrParse,
		" command = $;\n depfile = $h$h.": api.ErrParse,
		" command = $h$h.$;":              api.ErrParse,
	} {
		head := "rule s\n" + lines + "\n" + r + half + "long = " + strings.Repeat("l", 101) + "\n" +
			"big = " + strings.Repeat("l", 1001) + "\n"
		at := strings.Count(head, "\n") + 1
		fails(t, head+"build a: s\n x = 1\nbuild b: s\n", at, e)
		fails(t, head+"build b: r\nbuild a: s\n", at+1, e)
		// All lines are looked at ahead of all ends.
		fails(t, head+"build a: s\n\ny\n", at+2, api.ErrParse)
		fails(t, head+"build a: s\nrule t", at+1, api.ErrParse)
		parsed(t, head)
	}
	both := "rule s\n command = $a\n depfile = $b\n"
	fails(t, both+"build a: s\n a = c\n b = /\nbuild b: s\n", 4, api.ErrParse)
	fails(t, both+"build a: s\n a = c\n b = d\nbuild b: s\n", 7, api.ErrParse)
	fails(t, both+"build a: $\n s\n a = c\n b = d\nbuild $\n b: s$\n\n", 8, api.ErrParse)
}

// half sets h to half of what a text may have, by texts that grow; 32 is as long, and 64 bytes are set at once.
var half = "h = " + strings.Repeat("h", 64) + "\n" + strings.Repeat("h = $h$h\n", 7)

func TestP11_1_TextsThatGrowTooLong(t *testing.T) {
	const most = 1 << 14
	rule := "rule s\n command = $x$y\n"
	h := strings.Repeat("h", most/2)
	commanded(t, half+rule+"x = $h$h\nbuild a: s\n", h+h)
	commanded(t, half+rule+"build a: s\n x = $h$h\n", h+h)
	commanded(t, half+rule+"build a: s\n x = $h\ny = $h", h+h)
	at := strings.Count(half+rule, "\n") + 1
	fails(t, half+rule+"x = $h$h.\ny", at, api.ErrLong)
	fails(t, half+rule+"build a: s\n x = $h.$h\ny", at+1, api.ErrLong)
	fails(t, half+rule+"build a: s\n x = $h\ny = $h.", at, api.ErrLong)
	fails(t, half+rule+"build a: s\n x = $h\ny = $h.\nz", at+3, api.ErrParse)
	// A path that is too long is none, but its text may grow too long ahead of that.
	for _, before := range []string{"build ", "build a ", "build a: s ", "build a: s b | ", "build a: s || b c ", "default ", "default a "} {
		behind := ""
		if !strings.Contains(before, ":") && before[0] == 'b' {
			behind = ": s"
		}
		line := func(words string) string { return half + rule + before + words + behind + "\nx" }
		fails(t, line("$h$h."), at, api.ErrLong)
		fails(t, line("$h$h"), at, api.ErrParse)
		fails(t, line("$h"), at, api.ErrParse)
		fails(t, line(strings.Repeat("a", 101)), at, api.ErrParse)
		fails(t, line(strings.Repeat("a", 1001)), at, api.ErrParse)
		// The first that is wrong counts, from the left.
		fails(t, line("$h$h. $;"), at, api.ErrLong)
		fails(t, line("$; $h$h."), at, api.ErrParse)
		fails(t, line("b $h$h. /"), at, api.ErrLong)
		fails(t, line("b / $h$h."), at, api.ErrParse)
		fails(t, line("$h $h$h."), at, api.ErrParse)
		fails(t, line("$h$h.$;"), at, api.ErrParse)
	}
	// Its words count ahead of its paths and texts.
	for _, line := range []string{"build $h$h.: none", "build $h$h.: s:", "build $h$h.: s b | c | d", "build $h$h.", "build a: s $h$h. || b | c", "default $h$h. :", "default | $h$h.", "x y = $h$h.", "$h$h. = 1", "build a | $h$h.: s", "build $h$h. | a: s", "build $h$h. s: : s"} {
		fails(t, half+rule+line, at, api.ErrParse)
	}
	fails(t, half+rule+"build a: s\n x y = $h$h.", at+1, api.ErrParse)
	fails(t, half+rule+"build $h$h.: s / || $;", at, api.ErrLong)
	fails(t, half+rule+"build /: s $h$h. || $;", at, api.ErrParse)
	fails(t, half+rule+"build a: s b | $h$h. || $;", at, api.ErrLong)
	fails(t, half+rule+"build a: s b | $; || $h$h.", at, api.ErrParse)
}

func TestP11_1_InTooLong(t *testing.T) {
	// The names of all inputs may be more than a text may have, if nobody asks for it.
	head := "x = " + strings.Repeat("x", 99) + "\nrule s\n command = $c\nrule t\n command = $in\nrule u\n command = $out\n"
	many := strings.Repeat(" ${x}1", 162)
	if e := one(t, head+"build a: t"+many); len(e.Ins) != 162 || len(e.Command) != 162*101-1 {
		t.Errorf("%d inputs, a command of %d bytes", len(e.Ins), len(e.Command))
	}
	if e := one(t, head+"build"+many+": u"); len(e.Outs) != 162 || len(e.Command) != 162*101-1 {
		t.Errorf("%d outputs, a command of %d bytes", len(e.Outs), len(e.Command))
	}
	if e := one(t, head+"c = c\nbuild"+many+": s"+many); len(e.Outs) != 162 || e.Command != "c" {
		t.Errorf("%d outputs, a command of %d bytes", len(e.Outs), len(e.Command))
	}
	fails(t, head+"build a: t ${x}1"+many, 8, api.ErrLong)
	fails(t, head+"build ${x}1"+many+": u", 8, api.ErrLong)
	fails(t, head+"build a: t | b\nbuild ${x}1"+many+": u", 8, api.ErrParse)
}

func TestP11_1_PathsAtTheirBound(t *testing.T) {
	a := strings.Repeat("a", 100)
	parses(t, r+"build "+a+": r ./"+a+"\ndefault "+strings.Repeat("./", 450)+a, manifest.Manifest{
		Edges: []manifest.Edge{{Outs: names(a), Ins: names(a), Command: "c"}}, Defaults: names(a),
	})
	fails(t, r+"default "+strings.Repeat("./", 451)+a, 3, api.ErrParse)
}

func TestP11_1_MoreEdgesThanMayBe(t *testing.T) {
	most := r + strings.Repeat("build a: r\n", 200)
	if m := parsed(t, most); len(m.Edges) != 200 {
		t.Errorf("%d edges", len(m.Edges))
	}
	if m := parsed(t, most+" x = 1\nrule s\n command = c\ndefault a\nx = 1\n# build a: r"); len(m.Edges) != 200 || len(m.Defaults) != 1 {
		t.Errorf("%d edges", len(m.Edges))
	}
	for _, line := range []string{"build a: r", "build", "build a", "build :", "build a: none", "build $;: r", "build /: r", "build a: r | b | c", "build = 1", "build: r", "build a: r\nrule\n", "build a: r $\n\n x", "build | $;"} {
		fails(t, most+line, 203, api.ErrLong)
		fails(t, most+"x = 1\n\n"+line+"\ny", 205, api.ErrLong)
		fails(t, most+"rule s\n command\n"+line, 204, api.ErrParse)
		fails(t, most+"rule s\n"+line, 203, api.ErrParse)
		fails(t, most+"x\n"+line, 203, api.ErrParse)
		fails(t, most[:len(r)+11]+"build a: s\n"+most[len(r)+11:]+line, 4, api.ErrParse)
		// Of what is wrong at the end it is told ahead.
		fails(t, strings.Replace(most, "command = c", "command = $;", 1)+line, 203, api.ErrLong)
	}
	// A line of another first word is none of these.
	fails(t, most+"builds a: r", 203, api.ErrParse)
	fails(t, most+" build a: r", 203, api.ErrParse)
	parsed(t, most+"build=1\n")
}

func TestP11_1_LexFirst(t *testing.T) {
	a := "x = " + strings.Repeat("a", 1<<14-4)
	parsed(t, a)
	fails(t, a+"a", 0, api.ErrLong)
	fails(t, "y"+strings.Repeat("\n", 1<<14), 0, api.ErrLong)
	fails(t, strings.Repeat("y\n\x00", 1<<14), 0, api.ErrLong)
	fails(t, "y\nrule\n\t\n\x00", 3, api.ErrParse)
	fails(t, "y\nx = \xff", 2, api.ErrParse)
	fails(t, "y\nx = 1\r\n", 2, api.ErrParse)
	fails(t, "y\nx = $", 2, api.ErrParse)
	fails(t, "y\n$", 2, api.ErrParse)
	fails(t, r+strings.Repeat("build a: r\n", 201)+"$", 204, api.ErrParse)
}

func TestP11_1_NumbersOfLines(t *testing.T) {
	// A line that goes on has the number at which it begins.
	fails(t, "\n\nx = $\n $\n\nrule $\n $\n r $\n s\n", 6, api.ErrParse)
	fails(t, "# 1\n"+r+"build $\n a: r $\n b $\n ..\n", 4, api.ErrParse)
	fails(t, "rule r\n command = $;$\n ;\n\nbuild $\n a$\n:r\n x = 1\n", 5, api.ErrParse)
	fails(t, "rule $\n r\n depfile = $\n a\nx = 1", 1, api.ErrParse)
	for n := range 300 {
		fails(t, strings.Repeat("\n", n)+"y", n+1, api.ErrParse)
		fails(t, strings.Repeat("x = 1\n", n)+"y\ny", n+1, api.ErrParse)
	}
}

func TestP11_1_FirstWordsOfLinesThatGoOn(t *testing.T) {
	commanded(t, "ru$\n  le r$\ns\n com$\n   mand = a $\n b\nbui$\nld a$\n:r$\n    s b", "a b")
	parses(t, r+"def$\nault a$\n  b", manifest.Manifest{Defaults: names("ab")})
	// Whether it is an inner one hangs on where it begins.
	parses(t, r+"build a: r\n $\nx = 1\nbuild b: $\n    r", edges(manifest.Edge{Outs: names("a"), Command: "c"}, manifest.Edge{Outs: names("b"), Command: "c"}))
	fails(t, r+"build a: r\n$\n   x = 1\n y = 1", 6, api.ErrParse)
}

func TestP11_1_ManyRulesAndNames(t *testing.T) {
	var text strings.Builder
	for i := range 190 {
		n := strconv.Itoa(i)
		text.WriteString("rule r" + n + "\n command=c" + n + "$x" + n + "\nx" + n + "=" + n + "\nbuild o" + n + ":r" + n + " o" + strconv.Itoa(i+1) + "\n")
	}
	text.WriteString("x7=seven\n")
	m := parsed(t, text.String())
	for i, e := range m.Edges {
		n := strconv.Itoa(i)
		want := "c" + n + n
		if i == 7 {
			want = "c7seven"
		}
		if e.Command != want || !slices.Equal(e.Outs, names("o"+n)) || !slices.Equal(e.Ins, names("o"+strconv.Itoa(i+1))) {
			t.Errorf("edge %d: %q", i, e)
		}
	}
	if len(m.Edges) != 190 {
		t.Errorf("%d edges", len(m.Edges))
	}
}

func TestP11_1_ListsOfTheirOwn(t *testing.T) {
	text := r + "build a b: r c d | e f || g h\nbuild i: r j\ndefault k l\n"
	m := parsed(t, text)
	first := m.Edges[0]
	rows := [][]string{first.Outs, first.Ins, first.Implicit, first.Order, m.Edges[1].Outs, m.Edges[1].Ins, m.Defaults}
	for i, row := range rows {
		// A list that shared with another one would turn it here, or where it is appended to.
		for j := range row {
			row[j] = strconv.Itoa(i)
		}
		_ = append(row, "more")
	}
	for i, row := range rows {
		for _, name := range row {
			if name != strconv.Itoa(i) {
				t.Errorf("row %d: %q", i, row)
			}
		}
	}
	m = parsed(t, text)
	parses(t, text, m)
	if !slices.Equal(m.Edges[0].Outs, names("a", "b")) || !slices.Equal(m.Defaults, names("k", "l")) {
		t.Errorf("read again: %q", m)
	}
}
