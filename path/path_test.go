package path_test

import (
	"math/rand"
	libpath "path"
	"strings"
	"testing"

	"bellows/api"
	"bellows/path"
)

// nameBytes are the bytes that a name may have.
const nameBytes = "abcdefghijklmnopqrstuvwxyzABCDEFGHIJKLMNOPQRSTUVWXYZ0123456789._-+/"

// cleans checks one cleaning, and that nothing stands beside an error.
func cleans(t *testing.T, s, want string, e api.Errno) {
	t.Helper()
	if got, err := path.Clean(s); got != want || err != e {
		t.Errorf("Clean(%.40q of %d bytes) = %q, %d, want %q, %d", s, len(s), got, err, want, e)
	}
	if got, is := path.Right(s), e == api.OK && s == want; got != is {
		t.Errorf("Right(%.40q of %d bytes) = %v", s, len(s), got)
	}
}

func TestP3_1_Cleans(t *testing.T) {
	for s, want := range map[string]string{
		"a":                  "a",
		"a/b":                "a/b",
		"a/./b/../c//d":      "a/c/d",
		"./a":                "a",
		"././/a":             "a",
		"a/":                 "a",
		"a//":                "a",
		"a/.":                "a",
		"a/b/..":             "a",
		"a/b/../":            "a",
		"a/../b":             "b",
		"a/b/../../c":        "c",
		"a/b/c/../../d/e/..": "a/d",
		"a/..b/../c..":       "a/c..",
		"a/./../b":           "b",
		"a//../b":            "b",
		"...":                "...",
		".../..../a":         ".../..../a",
		".a/..a/a./a..":      ".a/..a/a./a..",
		"..a":                "..a",
		".build_log":         ".build_log",
		"_-+.x":              "_-+.x",
		"-":                  "-",
		"build.ninja":        "build.ninja",
		"Zz09/AZaz":          "Zz09/AZaz",
	} {
		cleans(t, s, want, api.OK)
	}
}

func TestP3_1_NoPath(t *testing.T) {
	for _, s := range []string{
		"", ".", "./", "./.", ".//.",
		"..", "../", "../a", "./..", "./../a", "a/..", "a/../", "a/../.", "a/../..", "a/../../b", "a/.././/../b/../../", "a/b/../../..", "a/b/../../../c/d",
		"/", "//", "/a", "//a", "/.", "/..", "/a/..", "/../a", "/./a",
	} {
		cleans(t, s, "", api.ErrName)
	}
}

func TestP3_1_EachByte(t *testing.T) {
	for c := range 256 {
		is := strings.IndexByte(nameBytes, byte(c)) >= 0
		one := string([]byte{byte(c)})
		for _, s := range []string{"x" + one + "y", "a/b/x" + one + "y", "a/" + one + "y/../b", "x" + one} {
			want, e := reference(s)
			if !is && e != api.ErrName {
				t.Fatalf("byte %d", c)
			}
			cleans(t, s, want, e)
		}
	}
	// Letters and figures are those of one byte alone.
	for _, s := range []string{"ä", "a/é", "٣", "ſ", "\u212a", "a\x00", "\xff", "a\nb", "a\\b", " a", "a ", "a\t", "a$b", "a:b", "a|b", "#", "~", "a,b", "a=b", "a@b"} {
		cleans(t, s, "", api.ErrName)
	}
}

// reference is what the library makes of a name: what it can't take away goes up from the beginning.
func reference(s string) (string, api.Errno) {
	if len(s) > 1000 {
		return "", api.ErrLong
	}
	clean := libpath.Clean(s)
	if strings.ContainsFunc(s, func(r rune) bool { return !strings.ContainsRune(nameBytes, r) }) {
		return "", api.ErrName
	}
	if s == "" || s[0] == '/' || clean == "." || clean == ".." || strings.HasPrefix(clean, "../") {
		return "", api.ErrName
	}
	if len(clean) > 100 {
		return "", api.ErrLong
	}
	return clean, api.OK
}

// each hands to do all texts of at most n bytes of letters that begin with s.
func each(letters, s string, n int, do func(string)) {
	do(s)
	if n == 0 {
		return
	}
	for i := range len(letters) {
		each(letters, s+letters[i:i+1], n-1, do)
	}
}

func TestP3_1_AllShortNames(t *testing.T) {
	each("a./", "", 9, func(s string) {
		want, e := reference(s)
		cleans(t, s, want, e)
	})
}

// row is a name of many parts that hang on chance alone; some are no names.
func row(chance *rand.Rand) string {
	kinds := []string{"", ".", "..", "..", "a", "bc", "d.e", "...", "-+_", "X9", "f", strings.Repeat("g", 30)}
	var parts []string
	for range 1 + chance.Intn(12) {
		parts = append(parts, kinds[chance.Intn(len(kinds))])
	}
	if chance.Intn(3) > 0 {
		parts = append([]string{"h", "i", "j"}, parts...)
	}
	return strings.Join(parts, "/")
}

func TestP3_1_ManyNames(t *testing.T) {
	chance := rand.New(rand.NewSource(1))
	paths := 0
	for range 20000 {
		s := row(chance)
		want, e := reference(s)
		cleans(t, s, want, e)
		if e == api.OK {
			paths++
		}
	}
	if paths < 5000 || paths > 19000 {
		t.Errorf("%d paths among them", paths)
	}
}

func TestP3_1_LongNames(t *testing.T) {
	// What is left counts for the one bound, what is handed in for the other.
	cleans(t, strings.Repeat("a", 100), strings.Repeat("a", 100), api.OK)
	cleans(t, strings.Repeat("a", 101), "", api.ErrLong)
	cleans(t, strings.Repeat("a/", 50), strings.Repeat("a/", 49)+"a", api.OK)
	cleans(t, strings.Repeat("a/", 50)+"b", "", api.ErrLong)
	cleans(t, strings.Repeat("a/", 49)+"bc", strings.Repeat("a/", 49)+"bc", api.OK)
	cleans(t, strings.Repeat("a", 300), "", api.ErrLong)
	cleans(t, strings.Repeat("a", 101)+"/../b", "b", api.OK)
	cleans(t, strings.Repeat("a", 900)+"/..", "", api.ErrName)
	cleans(t, "a"+strings.Repeat("/", 998)+"b", "a/b", api.OK)
	cleans(t, "a"+strings.Repeat("/", 999)+"b", "", api.ErrLong)
	cleans(t, strings.Repeat("a/../", 199)+"b", "b", api.OK)
	cleans(t, strings.Repeat("a/../", 199)+"bcdef", "bcdef", api.OK)
	cleans(t, strings.Repeat("a/../", 199)+"bcdefg", "", api.ErrLong)
	cleans(t, strings.Repeat("a", 1000), "", api.ErrLong)
	cleans(t, strings.Repeat("a", 1<<20), "", api.ErrLong)
}

func TestP3_1_FirstErrorCounts(t *testing.T) {
	// Too long ahead of the cleaning counts first; no name counts more than too much that is left.
	for _, s := range []string{strings.Repeat(" ", 1001), "/" + strings.Repeat("a", 1000), "../" + strings.Repeat("a", 1000), strings.Repeat("/.", 501), strings.Repeat("./", 501)} {
		cleans(t, s, "", api.ErrLong)
	}
	long := strings.Repeat("a", 200)
	for _, s := range []string{long + " ", " " + long, "/" + long, "../" + long, long + "/../..", long + "/../../" + long, long + "/..", strings.Repeat(" ", 1000), strings.Repeat("./", 500)} {
		cleans(t, s, "", api.ErrName)
	}
}

func TestP3_1_Right(t *testing.T) {
	for _, s := range []string{"a", "a/b", "...", "a..", "..a", ".a/b.", "_-+.x", "build.ninja", ".build_log", ".deps_log", strings.Repeat("a", 100)} {
		if !path.Right(s) {
			t.Errorf("%q is a path", s)
		}
	}
	for _, s := range []string{"", ".", "..", "/", "/a", "a/", "a//b", "./a", "a/.", "a/./b", "a/../b", "a/..", "../a", "a b", "ä", strings.Repeat("a", 101), strings.Repeat("a", 1001)} {
		if path.Right(s) {
			t.Errorf("%q is no path", s)
		}
	}
}

func TestP3_2_DirAndBase(t *testing.T) {
	for s, want := range map[string][2]string{
		"a":         {"", "a"},
		"abc":       {"", "abc"},
		"a/b":       {"a", "b"},
		"a/b/c":     {"a/b", "c"},
		"ab/cd/ef":  {"ab/cd", "ef"},
		"":          {"", ""},
		"/":         {"", ""},
		"/a":        {"", "a"},
		"a/":        {"a", ""},
		"a//":       {"a/", ""},
		"a//b":      {"a/", "b"},
		"./a":       {".", "a"},
		"a/..":      {"a", ".."},
		"..":        {"", ".."},
		"a/b.c":     {"a", "b.c"},
		" / ":       {" ", " "},
		"ä/ö":       {"ä", "ö"},
		"\xff/\x00": {"\xff", "\x00"},
	} {
		if d := path.Dir(s); d != want[0] {
			t.Errorf("Dir(%q) = %q, want %q", s, d, want[0])
		}
		if b := path.Base(s); b != want[1] {
			t.Errorf("Base(%q) = %q, want %q", s, b, want[1])
		}
	}
	long := strings.Repeat("a", 5000)
	if path.Dir(long+"/"+long+"/b") != long+"/"+long || path.Base("b/"+long) != long {
		t.Error("a long name's directory, or base")
	}
}

// joins checks that a joining is a cleaning of whole, and that this one is as wanted.
func joins(t *testing.T, dir, s, whole, want string, e api.Errno) {
	t.Helper()
	cleans(t, whole, want, e)
	if got, err := path.Join(dir, s); got != want || err != e {
		t.Errorf("Join(%.40q, %.40q) = %q, %d, want %q, %d", dir, s, got, err, want, e)
	}
}

func TestP3_2_Join(t *testing.T) {
	joins(t, "", "c", "c", "c", api.OK)
	joins(t, "", "a/../b//c", "a/../b//c", "b/c", api.OK)
	joins(t, "", "", "", "", api.ErrName)
	joins(t, "", "/a", "/a", "", api.ErrName)
	joins(t, "", "..", "..", "", api.ErrName)
	joins(t, "", "a b", "a b", "", api.ErrName)
	joins(t, "a", "b", "a/b", "a/b", api.OK)
	joins(t, "a/b", "../c", "a/b/../c", "a/c", api.OK)
	joins(t, "a/b", "../../c", "a/b/../../c", "c", api.OK)
	joins(t, "a/b", "../..", "a/b/../..", "", api.ErrName)
	joins(t, "a/b", "../../../c", "a/b/../../../c", "", api.ErrName)
	joins(t, "a", "", "a/", "a", api.OK)
	joins(t, "a", "/b", "a//b", "a/b", api.OK)
	joins(t, "a/", "b", "a//b", "a/b", api.OK)
	joins(t, ".", "a", "./a", "a", api.OK)
	joins(t, ".", "", "./", "", api.ErrName)
	joins(t, "..", "a", "../a", "", api.ErrName)
	joins(t, "a/..", "b", "a/../b", "b", api.OK)
	joins(t, "/", "a", "//a", "", api.ErrName)
	joins(t, "/a", "b", "/a/b", "", api.ErrName)
	joins(t, "a b", "c", "a b/c", "", api.ErrName)
	joins(t, "a", "b c", "a/b c", "", api.ErrName)
}

func TestP3_2_JoinLongNames(t *testing.T) {
	a := strings.Repeat("a", 60)
	joins(t, a, a[:39], a+"/"+a[:39], a+"/"+a[:39], api.OK)
	joins(t, a, a[:40], a+"/"+a[:40], "", api.ErrLong)
	joins(t, a, "../"+a, a+"/../"+a, a, api.OK)
	// The slash between counts.
	up := strings.Repeat("b/../", 100)
	joins(t, up[:499], strings.Repeat("/", 499)+"c", up[:499]+"/"+strings.Repeat("/", 499)+"c", "c", api.OK)
	joins(t, up, strings.Repeat("/", 498)+"c", up+"/"+strings.Repeat("/", 498)+"c", "c", api.OK)
	joins(t, up, strings.Repeat("/", 499)+"c", up+"/"+strings.Repeat("/", 499)+"c", "", api.ErrLong)
	joins(t, strings.Repeat(" ", 1000), "", strings.Repeat(" ", 1000)+"/", "", api.ErrLong)
	joins(t, "", strings.Repeat("/", 1001), strings.Repeat("/", 1001), "", api.ErrLong)
	joins(t, "a", strings.Repeat("a", 1<<20), "a/"+strings.Repeat("a", 1<<20), "", api.ErrLong)
}

func TestP3_3_WhatFollows(t *testing.T) {
	chance := rand.New(rand.NewSource(2))
	follows := func(s string) {
		p, e := path.Clean(s)
		if e != api.OK {
			return
		}
		if again, e := path.Clean(p); again != p || e != api.OK || !path.Right(p) {
			t.Errorf("%q, cleaned, is %q, and cleaned again %q, %d", s, p, again, e)
		}
		if len(p) > 100 || p == "" {
			t.Errorf("%q has %d bytes", p, len(p))
		}
		dir, base := path.Dir(p), path.Base(p)
		if joined, e := path.Join(dir, base); joined != p || e != api.OK {
			t.Errorf("%q and %q, joined, are %q, %d, not %q", dir, base, joined, e, p)
		}
		if !path.Right(base) || dir != "" && !path.Right(dir) {
			t.Errorf("%q has the directory %q and the base %q", p, dir, base)
		}
	}
	each("a./", "", 8, follows)
	for range 20000 {
		follows(row(chance))
	}
	for n := range 101 {
		follows(strings.Repeat("a/", n/2) + strings.Repeat("b", 1+n%50))
	}
}
