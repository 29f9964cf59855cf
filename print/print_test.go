package print_test

import (
	"strconv"
	"strings"
	"testing"

	"bellows/api"
	"bellows/manifest"
	"bellows/print"
)

// plain is an edge that may be printed.
var plain = manifest.Edge{Outs: names("a"), Command: "c"}

func names(all ...string) []string { return all }

func edges(all ...manifest.Edge) manifest.Manifest { return manifest.Manifest{Edges: all} }

// prints checks a manifest's text.
func prints(t *testing.T, m manifest.Manifest, want string) {
	t.Helper()
	if !print.Right(m) {
		t.Errorf("Right(%.300q) is false", m)
	}
	if s, e := print.Print(m); s != want || e != api.OK {
		t.Errorf("Print(%.300q) = %.300q, %d, want %.300q", m, s, e, want)
	}
}

// wrong checks that a manifest may not be printed.
func wrong(t *testing.T, m manifest.Manifest) {
	t.Helper()
	if print.Right(m) {
		t.Errorf("Right(%.300q) is true", m)
	}
	if s, e := print.Print(m); s != "" || e != api.ErrArg {
		t.Errorf("Print(%.300q) = %.300q, %d", m, s, e)
	}
}

// tooLong checks that a manifest's text is longer than it may be.
func tooLong(t *testing.T, m manifest.Manifest) {
	t.Helper()
	if !print.Right(m) {
		t.Errorf("Right(%.300q) is false", m)
	}
	if s, e := print.Print(m); s != "" || e != api.ErrLong {
		t.Errorf("Print(%.300q) = %.300q, %d", m, s, e)
	}
}

func TestP12_1_Texts(t *testing.T) {
	prints(t, manifest.Manifest{}, "")
	prints(t, edges(plain), "rule r0\n  command = c\nbuild a: r0\n")
	prints(t, manifest.Manifest{Defaults: names("a", "b/c")}, "default a b/c\n")
	prints(t, edges(manifest.Edge{Outs: names("a"), Ins: names("b", "c"), Command: "cat b c > a"}),
		"rule r0\n  command = cat$ b$ c$ >$ a\nbuild a: r0 b c\n")
	prints(t, manifest.Manifest{
		Edges: []manifest.Edge{
			{Outs: names("a", "b/c"), Ins: names("d", "e"), Implicit: names("f", "g"), Order: names("h", "i"), Command: "x $y: |", Depfile: "d/e.d"},
			{Outs: names("j"), Implicit: names("k"), Command: "||"},
			{Outs: names("l"), Order: names("m", "m"), Command: " c "},
			{Outs: names("a"), Ins: names("n"), Order: names("o"), Command: "$"},
		},
		Defaults: names("a", "none", "a"),
	}, "rule r0\n  command = x$ $$y$:$ $|\n  depfile = d/e.d\nbuild a b/c: r0 d e | f g || h i\n"+
		"rule r1\n  command = $|$|\nbuild j: r1 | k\n"+
		"rule r2\n  command = $ c$ \nbuild l: r2 || m m\n"+
		"rule r3\n  command = $$\nbuild a: r3 n || o\n"+
		"default a none a\n")
}

func TestP12_1_EmptyLists(t *testing.T) {
	none := []string{}
	prints(t, manifest.Manifest{Edges: []manifest.Edge{}, Defaults: none}, "")
	prints(t, manifest.Manifest{Edges: []manifest.Edge{{Outs: names("a"), Ins: none, Implicit: none, Order: none, Command: "c"}}, Defaults: none}, "rule r0\n  command = c\nbuild a: r0\n")
	wrong(t, edges(manifest.Edge{Outs: none, Command: "c"}))
}

func TestP12_1_ManyEdges(t *testing.T) {
	var all []manifest.Edge
	var want string
	for i := range 200 {
		prints(t, edges(all...), want)
		n := strconv.Itoa(i)
		all = append(all, manifest.Edge{Outs: names("o" + n), Ins: names("i" + n), Command: "c" + n})
		want += "rule r" + n + "\n  command = c" + n + "\nbuild o" + n + ": r" + n + " i" + n + "\n"
	}
	prints(t, edges(all...), want)
	wrong(t, edges(append(all, plain)...))
	wrong(t, edges(make([]manifest.Edge, 201)...))
	wrong(t, edges(make([]manifest.Edge, 200)...))
}

func TestP12_1_Names(t *testing.T) {
	long := strings.Repeat("n", 100)
	for _, name := range []string{"a", "a/b", "build", "rule", "default", "..a", "-", "+", "_", ".a", "0", "r0", long} {
		prints(t, edges(manifest.Edge{Outs: names("o", name), Command: "c"}), "rule r0\n  command = c\nbuild o "+name+": r0\n")
		prints(t, edges(manifest.Edge{Outs: names("o"), Ins: names(name), Command: "c"}), "rule r0\n  command = c\nbuild o: r0 "+name+"\n")
		prints(t, edges(manifest.Edge{Outs: names("o"), Implicit: names(name), Command: "c"}), "rule r0\n  command = c\nbuild o: r0 | "+name+"\n")
		prints(t, edges(manifest.Edge{Outs: names("o"), Order: names(name), Command: "c"}), "rule r0\n  command = c\nbuild o: r0 || "+name+"\n")
		prints(t, edges(manifest.Edge{Outs: names("o"), Command: "c", Depfile: name}), "rule r0\n  command = c\n  depfile = "+name+"\nbuild o: r0\n")
		prints(t, manifest.Manifest{Defaults: names("o", name)}, "default o "+name+"\n")
	}
	for _, name := range []string{"", "/", "/a", "a/", ".", "..", "./a", "a/.", "a//b", "a/../b", "../a", "a b", " a", "a ", "a\n", "$", "a$b", ":", "|", "||", "a:b", "a=b", "#", "ä", "a\x00", "\xff", "a,b", "*", "\\", long + "n", strings.Repeat("n", 1001)} {
		for _, row := range [][]string{{name}, {name, "b"}, {"b", name}, {"b", "c", name}} {
			wrong(t, edges(manifest.Edge{Outs: row, Command: "c"}))
			wrong(t, edges(manifest.Edge{Outs: names("o"), Ins: row, Command: "c"}))
			wrong(t, edges(manifest.Edge{Outs: names("o"), Implicit: row, Command: "c"}))
			wrong(t, edges(manifest.Edge{Outs: names("o"), Order: row, Command: "c"}))
			wrong(t, manifest.Manifest{Defaults: row})
			wrong(t, manifest.Manifest{Edges: []manifest.Edge{plain, plain}, Defaults: row})
			wrong(t, edges(plain, manifest.Edge{Outs: names("o"), Order: row, Command: "c"}))
			wrong(t, edges(manifest.Edge{Outs: names("o"), Ins: row, Command: "c"}, plain))
		}
		if name != "" {
			wrong(t, edges(manifest.Edge{Outs: names("o"), Command: "c", Depfile: name}))
			wrong(t, edges(plain, manifest.Edge{Outs: names("o"), Command: "c", Depfile: name}, plain))
		}
	}
}

func TestP12_1_EdgesThatMayNotBe(t *testing.T) {
	for _, e := range []manifest.Edge{{}, {Command: "c"}, {Outs: names("a")}, {Ins: names("a"), Command: "c"}, {Outs: names("a"), Depfile: "d"}, {Depfile: "d", Command: "c"}} {
		wrong(t, edges(e))
		wrong(t, edges(plain, e))
		wrong(t, edges(e, plain))
		wrong(t, manifest.Manifest{Edges: []manifest.Edge{plain, plain, e}, Defaults: names("a")})
	}
}

func TestP12_1_EachByteOfACommand(t *testing.T) {
	for c := range 256 {
		one := string([]byte{byte(c)})
		for _, command := range []string{one, "a" + one, one + "a", "a" + one + "b", one + one} {
			m := edges(manifest.Edge{Outs: names("o"), Command: command})
			if c < 32 || c > 126 {
				wrong(t, m)
				continue
			}
			escaped := command
			if strings.Contains("$ :|", one) {
				escaped = strings.ReplaceAll(command, one, "$"+one)
			}
			prints(t, m, "rule r0\n  command = "+escaped+"\nbuild o: r0\n")
		}
	}
	wrong(t, edges(manifest.Edge{Outs: names("o"), Command: "cät"}))
	wrong(t, edges(manifest.Edge{Outs: names("o"), Command: strings.Repeat("c", 1<<16) + "\n"}))
}

func TestP12_1_TextsAtTheirBound(t *testing.T) {
	const most = 1 << 14
	frame := len("rule r0\n  command = \nbuild a: r0\n")
	c := strings.Repeat("c", most-frame)
	prints(t, edges(manifest.Edge{Outs: names("a"), Command: c}), "rule r0\n  command = "+c+"\nbuild a: r0\n")
	tooLong(t, edges(manifest.Edge{Outs: names("a"), Command: c + "c"}))
	tooLong(t, manifest.Manifest{Edges: []manifest.Edge{{Outs: names("a"), Command: c}}, Defaults: names("a")})
	tooLong(t, edges(manifest.Edge{Outs: names("a"), Command: c}, plain))
	// The $ ahead of bytes count.
	tooLong(t, edges(manifest.Edge{Outs: names("a"), Command: c[1:] + " "}))
	prints(t, edges(manifest.Edge{Outs: names("a"), Command: c[2:] + " "}), "rule r0\n  command = "+c[2:]+"$ \nbuild a: r0\n")
	tooLong(t, edges(manifest.Edge{Outs: names("a"), Command: strings.Repeat("$", most/2)}))
	tooLong(t, edges(manifest.Edge{Outs: names("a"), Command: strings.Repeat("c", 1<<20)}, plain))
	// So does each name, and what stands ahead of it.
	n := strings.Repeat("n", 100)
	for _, one := range []struct {
		more     string
		e        manifest.Edge
		defaults []string
	}{
		{" " + n, manifest.Edge{Outs: names("a", n)}, nil},
		{" " + n, manifest.Edge{Outs: names("a"), Ins: names(n)}, nil},
		{" | " + n, manifest.Edge{Outs: names("a"), Implicit: names(n)}, nil},
		{" || " + n, manifest.Edge{Outs: names("a"), Order: names(n)}, nil},
		{" b | c || d", manifest.Edge{Outs: names("a"), Ins: names("b"), Implicit: names("c"), Order: names("d")}, nil},
		{"  depfile = d\n", manifest.Edge{Outs: names("a"), Depfile: "d"}, nil},
		{"default b " + n + "\n", manifest.Edge{Outs: names("a")}, names("b", n)},
	} {
		one.e.Command = c[len(one.more):]
		m := manifest.Manifest{Edges: []manifest.Edge{one.e}, Defaults: one.defaults}
		if s, e := print.Print(m); len(s) != most || e != api.OK {
			t.Errorf("%q more: %d bytes, %d", one.more, len(s), e)
		}
		m.Edges[0].Command += "c"
		tooLong(t, m)
	}
	many := func(n int) []string { return strings.Fields(strings.Repeat("a ", n)) }
	prints(t, manifest.Manifest{Defaults: many(most/2 - 4)}, "default"+strings.Repeat(" a", most/2-4)+"\n")
	tooLong(t, manifest.Manifest{Defaults: many(most/2 - 3)})
	// What may not be printed counts ahead of a text that is too long.
	wrong(t, manifest.Manifest{Edges: []manifest.Edge{{Outs: names("a"), Command: c + "c"}}, Defaults: names("/")})
	wrong(t, edges(manifest.Edge{Outs: names("a"), Command: c + "c", Depfile: "/"}))
}

func TestP12_1_NamesInManyRows(t *testing.T) {
	// One list in all rows of all edges: its text is far longer than it.
	row := make([]string, 1<<12)
	for i := range row {
		row[i] = "n"
	}
	all := make([]manifest.Edge, 200)
	for i := range all {
		all[i] = manifest.Edge{Outs: row, Ins: row, Implicit: row, Order: row, Command: "c", Depfile: "d"}
	}
	tooLong(t, manifest.Manifest{Edges: all, Defaults: row})
	row[len(row)-1] = "n/"
	wrong(t, edges(all...))
}

func TestP12_1_NothingIsTurned(t *testing.T) {
	room := append(make([]string, 0, 4), "a", "b")
	m := manifest.Manifest{Edges: []manifest.Edge{{Outs: room[:1], Ins: room[:1], Implicit: room[:1], Order: room[:1], Command: "$ ", Depfile: "d"}}, Defaults: room[:1]}
	want := "rule r0\n  command = $$$ \n  depfile = d\nbuild a: r0 a | a || a\ndefault a\n"
	for range 3 {
		prints(t, m, want)
	}
	if room[0] != "a" || room[1] != "b" || room[:3][2] != "" || m.Edges[0].Command != "$ " {
		t.Errorf("%q, %q", room[:4], m)
	}
}
