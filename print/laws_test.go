package print_test

import (
	"math/rand"
	"slices"
	"strings"
	"testing"

	"bellows/api"
	"bellows/manifest"
	"bellows/print"
)

// same: do two manifests tell the same?
func same(a, b manifest.Manifest) bool {
	return slices.Equal(a.Defaults, b.Defaults) && slices.EqualFunc(a.Edges, b.Edges, func(a, b manifest.Edge) bool {
		return slices.Equal(a.Outs, b.Outs) && slices.Equal(a.Ins, b.Ins) && slices.Equal(a.Implicit, b.Implicit) &&
			slices.Equal(a.Order, b.Order) && a.Command == b.Command && a.Depfile == b.Depfile
	})
}

// back checks that what is printed is read as the manifest that it was; it tells whether it was printed.
func back(t *testing.T, m manifest.Manifest) bool {
	t.Helper()
	if !print.Right(m) {
		t.Errorf("Right(%.300q) is false", m)
	}
	s, e := print.Print(m)
	if e == api.ErrLong && s == "" {
		return false
	}
	if e != api.OK {
		t.Fatalf("Print(%.300q): %d", m, e)
	}
	again, number, e := manifest.Parse(s)
	if number != 0 || e != api.OK || !same(again, m) {
		t.Fatalf("Print(%.300q) = %.300q, read as %.300q, %d, %d", m, s, again, number, e)
	}
	if twice, e := print.Print(again); twice != s || e != api.OK {
		t.Fatalf("Print(%.300q) = %.300q, %d, and ahead %.300q", again, twice, e, s)
	}
	return true
}

// some is one of these.
func some(chance *rand.Rand, of ...string) string { return of[chance.Intn(len(of))] }

// anyNames are paths.
func anyNames(chance *rand.Rand, least, most int) []string {
	var row []string
	for range least + chance.Intn(most-least+1) {
		row = append(row, some(chance, "a", "b.c", "a/b", "..a", "build", "default", "rule", "r0", "-+_", strings.Repeat("n", 1+chance.Intn(100))))
	}
	return row
}

// anyCommand has bytes from 32 to 126 alone.
func anyCommand(chance *rand.Rand, most int) string {
	b := make([]byte, 1+chance.Intn(most))
	for i := range b {
		b[i] = byte(32 + chance.Intn(95))
		if chance.Intn(2) == 0 {
			b[i] = "$ :|=#{}ain"[chance.Intn(11)]
		}
	}
	return string(b)
}

// anyManifest is one that may be printed.
func anyManifest(chance *rand.Rand, edges, command int) manifest.Manifest {
	m := manifest.Manifest{Defaults: anyNames(chance, 0, 3)}
	for range chance.Intn(edges + 1) {
		e := manifest.Edge{Outs: anyNames(chance, 1, 3), Ins: anyNames(chance, 0, 3), Implicit: anyNames(chance, 0, 2), Order: anyNames(chance, 0, 2), Command: anyCommand(chance, command)}
		if chance.Intn(2) == 0 {
			e.Depfile = anyNames(chance, 1, 1)[0]
		}
		m.Edges = append(m.Edges, e)
	}
	return m
}

func TestP12_2_PrintedIsReadAsItWas(t *testing.T) {
	chance := rand.New(rand.NewSource(12))
	for range 5000 {
		if !back(t, anyManifest(chance, 5, 12)) {
			t.Fatal("none is so long")
		}
	}
	// Some of these are too long, some are not.
	printed := 0
	for range 400 {
		if back(t, anyManifest(chance, 200, 100)) {
			printed++
		}
	}
	if printed < 50 || printed > 350 {
		t.Errorf("%d were printed", printed)
	}
}

func TestP12_2_AllShortCommands(t *testing.T) {
	var each func(s string, n int)
	each = func(s string, n int) {
		if s != "" && !back(t, manifest.Manifest{Edges: []manifest.Edge{{Outs: names("a"), Ins: names("b"), Command: s}}}) {
			t.Fatalf("%q is not too long", s)
		}
		for _, c := range "$ :|=#{}in" {
			if n > 0 {
				each(s+string(c), n-1)
			}
		}
	}
	each("", 4)
}

// anyText is lines, most of them right.
func anyText(chance *rand.Rand) string {
	text := "x = a\ny = b/c\nrule r\n command = " + some(chance, "c", "$ ", "$$", "#", "=", "$in", "$:") + some(chance, "", " $in > $out", " $x", "$ ", "$$$$", "$\n", " | d", "$|$:") + "\n"
	if chance.Intn(2) == 0 {
		text += " depfile = " + some(chance, "$out.d", "d", "$x//$y", "./$x", "$none") + "\n"
	}
	for range chance.Intn(6) {
		text += some(chance,
			"build a: r\n", "build $x ./b: r c//d | e || f\n", "build a$x: r ${y}.o\n x = $x$x\n", "build o:r|a||b\n in = 1\n x = $$\n", "build o/../p: r || a a\n",
			"x = $x/b\n", "y = $ $x\n", "default a $x\n", "default ./$x/../c\n", "# x\n", "build a: r $y\n y =\n", "x = $y\n")
	}
	return text
}

func TestP12_2_ReadMayBePrinted(t *testing.T) {
	chance := rand.New(rand.NewSource(13))
	read := 0
	for range 20000 {
		if m, _, e := manifest.Parse(anyText(chance)); e == api.OK {
			read++
			if !back(t, m) {
				t.Fatal("none is so long")
			}
		}
	}
	if read < 5000 {
		t.Errorf("%d were read", read)
	}
}

func TestP12_2_ReadButTooLong(t *testing.T) {
	// A text of few bytes may tell more than a text may have.
	text := "x = " + strings.Repeat("x", 100) + "\nrule r\n command = $in\nbuild a: r" + strings.Repeat(" $x", 150) + "\n"
	m, _, e := manifest.Parse(text)
	if e != api.OK || back(t, m) {
		t.Errorf("%d", e)
	}
	tooLong(t, m)
}

func TestP12_2_LongestCommand(t *testing.T) {
	c := strings.Repeat("c", 1<<14-len("rule r0\n  command = \nbuild a: r0\n"))
	if !back(t, manifest.Manifest{Edges: []manifest.Edge{{Outs: names("a"), Command: c}}}) {
		t.Error("it is not too long")
	}
	if back(t, manifest.Manifest{Edges: []manifest.Edge{{Outs: names("a"), Command: c + "c"}}}) {
		t.Error("it is too long")
	}
}

func TestP12_1_AnyTurn(t *testing.T) {
	// A manifest that may be printed, with one thing in it turned, may be if, and only if, that thing may.
	chance := rand.New(rand.NewSource(14))
	for range 5000 {
		m := anyManifest(chance, 5, 12)
		if len(m.Edges) == 0 {
			continue
		}
		e := &m.Edges[chance.Intn(len(m.Edges))]
		name := some(chance, "", "a/", "/a", "..", "a b", "a$", strings.Repeat("n", 101), "a:", "./a", "a//b")
		switch chance.Intn(6) {
		case 0:
			e.Outs = slices.Insert(e.Outs, chance.Intn(len(e.Outs)+1), name)
		case 1:
			e.Ins = slices.Insert(e.Ins, chance.Intn(len(e.Ins)+1), name)
		case 2:
			e.Implicit = slices.Insert(e.Implicit, chance.Intn(len(e.Implicit)+1), name)
		case 3:
			e.Order = slices.Insert(e.Order, chance.Intn(len(e.Order)+1), name)
		case 4:
			m.Defaults = slices.Insert(m.Defaults, chance.Intn(len(m.Defaults)+1), name)
		case 5:
			at := chance.Intn(len(e.Command) + 1)
			e.Command = e.Command[:at] + some(chance, "\n", "\t", "\x00", "\x1f", "\x7f", "\x80", "\xff") + e.Command[at:]
		}
		wrong(t, m)
	}
}
