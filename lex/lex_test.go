package lex_test

import (
	"slices"
	"strings"
	"testing"

	"bellows/api"
	"bellows/lex"
)

// outer and inner are lines as they are told.
func outer(number int, text string) lex.Line { return lex.Line{Text: text, Number: number} }
func inner(number int, text string) lex.Line {
	return lex.Line{Inner: true, Text: text, Number: number}
}

// tells checks the lines of one text.
func tells(t *testing.T, text string, want ...lex.Line) {
	t.Helper()
	if l, n, e := lex.Lines(text); !slices.Equal(l, want) || n != 0 || e != api.OK {
		t.Errorf("Lines(%.60q of %d bytes) = %+v, %d, %d, want %+v", text, len(text), l, n, e, want)
	}
}

// isWrong checks the error of one text, and that no line stands beside it.
func isWrong(t *testing.T, text string, number int, e api.Errno) {
	t.Helper()
	if l, n, err := lex.Lines(text); len(l) > 0 || n != number || err != e {
		t.Errorf("Lines(%.60q of %d bytes) = %+v, %d, %d, want line %d, error %d", text, len(text), l, n, err, number, e)
	}
}

func TestP9_1_LinesThatCount(t *testing.T) {
	tells(t, "a", outer(1, "a"))
	tells(t, "a\n", outer(1, "a"))
	tells(t, "a\nb", outer(1, "a"), outer(2, "b"))
	tells(t, "a b\n\n\nc", outer(1, "a b"), outer(4, "c"))
	tells(t, "\na", outer(2, "a"))
	tells(t, "rule cc\n  command = cat $in > $out\n\nbuild a: cc b c\n",
		outer(1, "rule cc"), inner(2, "command = cat $in > $out"), outer(4, "build a: cc b c"))
}

func TestP9_1_InnerAndTrimmed(t *testing.T) {
	tells(t, " a", inner(1, "a"))
	tells(t, "a ", outer(1, "a"))
	tells(t, "   a  b   ", inner(1, "a  b"))
	tells(t, "a\n b\nc\n  d \n", outer(1, "a"), inner(2, "b"), outer(3, "c"), inner(4, "d"))
}

func TestP9_1_BlanksBehindADollar(t *testing.T) {
	// One that is escaped is none of those behind; all others go.
	tells(t, "a$ ", outer(1, "a$ "))
	tells(t, "a$    ", outer(1, "a$ "))
	tells(t, "a$$ ", outer(1, "a$$"))
	tells(t, "a$$   ", outer(1, "a$$"))
	tells(t, "a$$$   ", outer(1, "a$$$ "))
	tells(t, "a$ $   ", outer(1, "a$ $ "))
	tells(t, "$ ", outer(1, "$ "))
	tells(t, "  $  ", inner(1, "$ "))
	tells(t, "$$", outer(1, "$$"))
	tells(t, "a$ \nb", outer(1, "a$ "), outer(2, "b"))
}

func TestP9_1_LinesThatDoNotCount(t *testing.T) {
	for _, text := range []string{"", " ", "    ", "\n", "\n\n\n", " \n  \n", "#", "# a", "  #a", "#\n#\n", "##", "#$", "# a $", "  # $$$", "#$\n", "#a:b|c"} {
		tells(t, text)
	}
	tells(t, "# a $\nb", outer(2, "b"))
	tells(t, "# a $\n  b", inner(2, "b"))
	tells(t, "a\n  # b\n  c", outer(1, "a"), inner(3, "c"))
	tells(t, "a\n   \n  c", outer(1, "a"), inner(3, "c"))
	// A mark that is not the first byte begins nothing.
	tells(t, "a # b", outer(1, "a # b"))
	tells(t, "a#", outer(1, "a#"))
	tells(t, "$#", outer(1, "$#"))
}

func TestP9_1_LinesThatGoOn(t *testing.T) {
	tells(t, "a$\nb", outer(1, "ab"))
	tells(t, "a $\nb", outer(1, "a b"))
	tells(t, "a $\n    b\nc", outer(1, "a b"), outer(3, "c"))
	tells(t, "a $\n b $\n  c\nd", outer(1, "a b c"), outer(4, "d"))
	tells(t, "  a $\nb", inner(1, "a b"))
	tells(t, "a$$\nb", outer(1, "a$$"), outer(2, "b"))
	tells(t, "a$$$\n b", outer(1, "a$$b"))
	tells(t, "a$$$\n$$", outer(1, "a$$$$"))
	tells(t, "a$$$\n$\n$$b", outer(1, "a$$$$b"))
	tells(t, "a$ $\n b", outer(1, "a$ b"))
	tells(t, "a $\n$ b", outer(1, "a $ b"))
	tells(t, "a$\n\nb", outer(1, "a"), outer(3, "b"))
	tells(t, "a $\n", outer(1, "a"))
	tells(t, "a$ $\n", outer(1, "a$ "))
	tells(t, "a $\n   \n b", outer(1, "a"), inner(3, "b"))
	tells(t, "a $\n   $\n   b", outer(1, "a b"))
}

func TestP9_1_WhatGoesOnCounts(t *testing.T) {
	// Whether a line counts is told where it begins, whatever comes together.
	tells(t, "$\n", outer(1, ""))
	tells(t, "  $\n", inner(1, ""))
	tells(t, "$\n$\n$\n", outer(1, ""))
	tells(t, "$\n# a", outer(1, "# a"))
	tells(t, " $\n  # a", inner(1, "# a"))
	tells(t, "$\n   a", outer(1, "a"))
	tells(t, "a $\n# b\n# c", outer(1, "a # b"))
	tells(t, "a $\n# b $\nc", outer(1, "a # b c"))
	tells(t, "# a $\n# b $\nc$\nd", outer(3, "cd"))
}

func TestP9_1_TheLastLineGoesOn(t *testing.T) {
	isWrong(t, "$", 1, api.ErrParse)
	isWrong(t, "a $", 1, api.ErrParse)
	isWrong(t, "a$$$", 1, api.ErrParse)
	isWrong(t, "  $", 1, api.ErrParse)
	isWrong(t, "a\n\nb$", 3, api.ErrParse)
	// It is the last line's own number, not that at which what goes on began.
	isWrong(t, "a$\n$", 2, api.ErrParse)
	isWrong(t, "a $\n b $\n  c $", 3, api.ErrParse)
	isWrong(t, "a$$$\n$", 2, api.ErrParse)
	// In what goes on a mark begins nothing that would end it.
	isWrong(t, "a $\n# b $", 2, api.ErrParse)
	tells(t, "a\n# b $", outer(1, "a"))
}

func TestP9_1_EachByte(t *testing.T) {
	for c := range 256 {
		one := string([]byte{byte(c)})
		at := func(number int, text string) {
			t.Helper()
			if c < 32 && c != 10 || c >= 127 {
				isWrong(t, text, number, api.ErrParse)
			} else if _, n, e := lex.Lines(text); n != 0 || e != api.OK {
				t.Errorf("Lines(%q): %d, %d", text, n, e)
			}
		}
		at(1, "x"+one+"y")
		at(1, one+"\n")
		at(2, "a\n"+one+"b\nc\n")
		at(3, "a\n\n  b c"+one+" ")
		at(1, "# x"+one)
		at(2, "a\n  # x"+one+"y $\nb")
		at(2, "a $\n  "+one+"b")
		at(3, "a $\n  b $\n "+one+"c")
		at(2, "\n   "+one+"a")
		at(1, "a$"+one+"b")
	}
}

func TestP9_1_TheFirstWrongByteCounts(t *testing.T) {
	isWrong(t, "a\n\tb\n\x00", 2, api.ErrParse)
	isWrong(t, "a\r\nb\r\n", 1, api.ErrParse)
	isWrong(t, "a\n# \xff\nb\x7f", 2, api.ErrParse)
	isWrong(t, "a\x01\nb $", 1, api.ErrParse)
	isWrong(t, "a $\nb \x1f c $", 2, api.ErrParse)
	isWrong(t, "a\nä", 2, api.ErrParse)
	isWrong(t, "\ufeffa", 1, api.ErrParse)
}

func TestP9_1_LongTexts(t *testing.T) {
	a := strings.Repeat("a", 1<<14)
	tells(t, a, outer(1, a))
	isWrong(t, a+"a", 0, api.ErrLong)
	tells(t, strings.Repeat("\n", 1<<14))
	isWrong(t, strings.Repeat("\n", 1<<14+1), 0, api.ErrLong)
	tells(t, strings.Repeat("$\n", 1<<13), outer(1, ""))
	tells(t, strings.Repeat("$$$\n", 1<<12), outer(1, strings.Repeat("$$", 1<<12)))
	tells(t, strings.Repeat(" ", 1<<14-1)+"a", inner(1, "a"))
	// All bytes count, those of lines that do not as well; and nothing is wrong ahead of it.
	isWrong(t, "a\n#"+a, 0, api.ErrLong)
	isWrong(t, strings.Repeat("\x00", 1<<14+1), 0, api.ErrLong)
	isWrong(t, a+"$", 0, api.ErrLong)
	isWrong(t, a[1:]+"$", 1, api.ErrParse)
	isWrong(t, strings.Repeat("\n", 1<<14-1)+"$", 1<<14, api.ErrParse)
	var all []lex.Line
	for i := range 1 << 13 {
		all = append(all, outer(i+1, "b"))
	}
	tells(t, strings.Repeat("b\n", 1<<13), all...)
}

// has checks the words of one line.
func has(t *testing.T, s string, want ...string) {
	t.Helper()
	if w := lex.Words(s); !slices.Equal(w, want) {
		t.Errorf("Words(%.60q) = %q, want %q", s, w, want)
	}
}

func TestP9_2_Words(t *testing.T) {
	has(t, "")
	has(t, "   ")
	has(t, "a", "a")
	has(t, " a ", "a")
	has(t, "a b", "a", "b")
	has(t, "   a   b  cd  ", "a", "b", "cd")
	has(t, "a:b || c$ d", "a", ":", "b", "||", "c$ d")
	has(t, "build a b: cc c d | e || f", "build", "a", "b", ":", "cc", "c", "d", "|", "e", "||", "f")
	has(t, "x = $in #y", "x", "=", "$in", "#y")
}

func TestP9_2_Signs(t *testing.T) {
	has(t, ":", ":")
	has(t, "::", ":", ":")
	has(t, "|", "|")
	has(t, "||", "||")
	has(t, "|||", "||", "|")
	has(t, "||||", "||", "||")
	has(t, "| |", "|", "|")
	has(t, "a|b", "a", "|", "b")
	has(t, "a||b", "a", "||", "b")
	has(t, "a|:b", "a", "|", ":", "b")
	has(t, ":||:", ":", "||", ":")
	has(t, "a :b: c", "a", ":", "b", ":", "c")
}

func TestP9_2_BehindADollar(t *testing.T) {
	has(t, "$ ", "$ ")
	has(t, "a$ b", "a$ b")
	has(t, "a$  b", "a$ ", "b")
	has(t, "a$$ b", "a$$", "b")
	has(t, "a$$$ b", "a$$$ b")
	has(t, "$:", "$:")
	has(t, "a$:b:c", "a$:b", ":", "c")
	has(t, "a$$:b", "a$$", ":", "b")
	has(t, "a$|b", "a$|b")
	has(t, "a$||b", "a$|", "|", "b")
	has(t, "a$|||b", "a$|", "||", "b")
	has(t, "a$$||b", "a$$", "||", "b")
	has(t, "a$ $ b", "a$ $ b")
	has(t, "$a:$b", "$a", ":", "$b")
	// As it is written: one that has nothing behind it stays, too.
	has(t, "$", "$")
	has(t, "a $", "a", "$")
	has(t, "a$$$", "a$$$")
	has(t, "${x y}", "${x", "y}")
}

func TestP9_2_AllOtherBytesAreOfWords(t *testing.T) {
	for c := range 256 {
		one := string([]byte{byte(c)})
		if strings.Contains(" :|$", one) {
			continue
		}
		has(t, one, one)
		has(t, "a"+one+"b", "a"+one+"b")
		has(t, one+" "+one+":"+one, one, one, ":", one)
		has(t, "$"+one+" $$"+one, "$"+one, "$$"+one)
	}
	long := strings.Repeat("a", 1<<20)
	has(t, long+" "+long, long, long)
}

func TestP9_2_Sign(t *testing.T) {
	for _, word := range []string{":", "|", "||"} {
		if !lex.Sign(word) {
			t.Errorf("%q is a sign", word)
		}
	}
	for _, word := range []string{"", "a", "::", "|||", "| ", " |", ":|", "|:", "$:", "$|", "$||", "a:", ";", "/", " ", "\x00", "||||"} {
		if lex.Sign(word) {
			t.Errorf("%q is no sign", word)
		}
	}
}
