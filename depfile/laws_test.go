package depfile_test

import (
	"math/rand"
	"regexp"
	"slices"
	"strings"
	"testing"

	"bellows/api"
	"bellows/depfile"
	"bellows/path"
)

// form is that of the line that counts.
var form = regexp.MustCompile(`^ *([^ :]+) *:((?: *[^ :]+)*) *$`)

// model tells what a text tells, by a form for its line.
func model(text string) (string, []string, bool) {
	if len(text) > 1<<14 {
		return "", nil, false
	}
	var rows []string
	for _, row := range strings.Split(strings.Join(strings.Split(text, "\\\n"), " "), "\n") {
		if len(row) != strings.Count(row, " ") {
			rows = append(rows, row)
		}
	}
	if len(rows) != 1 {
		return "", nil, false
	}
	parts := form.FindStringSubmatch(rows[0])
	if parts == nil {
		return "", nil, false
	}
	out, e := path.Clean(parts[1])
	right := e == api.OK
	var deps []string
	for _, word := range strings.Split(parts[2], " ") {
		if word == "" {
			continue
		}
		name, e := path.Clean(word)
		right = right && e == api.OK
		if !slices.Contains(deps, name) {
			deps = append(deps, name)
		}
	}
	return out, deps, right
}

// meets holds what a text tells against the model, and tells whether it is one.
func meets(t *testing.T, text string) bool {
	t.Helper()
	out, deps, right := model(text)
	if right {
		parses(t, text, out, deps...)
	} else {
		refused(t, text)
	}
	return right
}

// each hands to do all texts of at most n bytes of letters that begin with s.
func each(letters, s string, n int, do func(string)) {
	do(s)
	if n == 0 {
		return
	}
	for i := range len(letters) {
		each(letters, s+letters[i:i+1], n-1, do)
	}
}

func TestP14_1_AllShortTexts(t *testing.T) {
	right := 0
	look := func(s string) {
		if meets(t, s) {
			right++
		}
	}
	each("ab./: \\\n", "", 6, look)
	each("a: \\\n", "", 8, look)
	if right < 10000 {
		t.Errorf("%d are right", right)
	}
}

// some is one of these.
func some(chance *rand.Rand, of ...string) string { return of[chance.Intn(len(of))] }

// anyPath is a path; some are told more often than others.
func anyPath(chance *rand.Rand) string {
	name := some(chance, "a", "b", "c.h", "x-1", "D_+", "...")
	for range chance.Intn(3) {
		name += "/" + some(chance, "a", "b", "..c", ".d", strings.Repeat("e", 1+chance.Intn(20)))
	}
	return name
}

func TestP14_1_ManyTexts(t *testing.T) {
	right, all := 0, 0
	for seed := range int64(20000) {
		chance := rand.New(rand.NewSource(seed))
		text := some(chance, "", "", "\n", " \\\n", "  \n \n") + anyPath(chance) + some(chance, ":", ": ", " :", " : ", "\\\n:", ":\\\n")
		for range chance.Intn(12) {
			text += some(chance, "", "", "", "./", "a/../", "x//../") + anyPath(chance) + some(chance, " ", " ", "  ", "\\\n", " \\\n ")
		}
		text += some(chance, "", "\n", "\n\n", " \n")
		if chance.Intn(2) == 0 {
			at := chance.Intn(len(text) + 1)
			text = text[:at] + some(chance, ":", "\n", " ", "\\", "\t", "/", "..", "\\\n", "\xff") + text[at:]
		}
		if all++; meets(t, text) {
			right++
		}
	}
	if right < all/2 || right > all*9/10 {
		t.Errorf("%d of %d are right", right, all)
	}
}

// broken is a text with each blank in another one of the ways that it may have.
func broken(chance *rand.Rand, text string) string {
	var whole strings.Builder
	for i := range len(text) {
		if text[i] != ' ' {
			whole.WriteByte(text[i])
			continue
		}
		for range 1 + chance.Intn(3) {
			whole.WriteString(some(chance, " ", "\\\n", " \\\n ", "\\\n\\\n"))
		}
	}
	return whole.String()
}

func TestP14_3_WhatIsPrintedIsReadAsItWas(t *testing.T) {
	chance := rand.New(rand.NewSource(14))
	for range 3000 {
		out := anyPath(chance)
		var deps, once []string
		for range chance.Intn(40) {
			name := anyPath(chance)
			deps = append(deps, name)
			if !slices.Contains(once, name) {
				once = append(once, name)
			}
		}
		text, e := depfile.Print(out, deps)
		if e != api.OK || strings.Count(text, "\n") != 1 {
			t.Fatalf("Print(%q, %q) = %q, %d", out, deps, text, e)
		}
		parses(t, text, out, once...)
		for range 5 {
			parses(t, some(chance, "", "\n", " \n", "\\\n")+broken(chance, text)+some(chance, "", "\n", "  ", "\\\n"), out, once...)
		}
		// What was read is printed with each name once, and read again as it was.
		again, e := depfile.Print(out, once)
		if e != api.OK {
			t.Fatalf("Print(%q, %q): %d", out, once, e)
		}
		parses(t, again, out, once...)
	}
}

func TestP14_3_ReadTwice(t *testing.T) {
	each("a./: \\\n", "", 6, func(text string) {
		out, deps, e := depfile.Parse(text)
		if e != api.OK {
			return
		}
		printed, e := depfile.Print(out, deps)
		if e != api.OK {
			t.Errorf("Parse(%q) tells %q, %q, which may not be printed", text, out, deps)
		}
		parses(t, printed, out, deps...)
	})
}
