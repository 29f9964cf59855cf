package manifest_test

import (
	"math/rand"
	gopath "path"
	"regexp"
	"slices"
	"strings"
	"testing"

	"bellows/api"
	"bellows/lex"
	"bellows/manifest"
	"bellows/path"
)

// The forms of what the model reads.
var (
	rightText  = regexp.MustCompile(`\A(?:[^$]|\$(?:[$ :|]|[A-Za-z0-9_-]|\{[A-Za-z0-9_.-]+\}))*\z`)
	dollar     = regexp.MustCompile(`\$(?:([$ :|])|([A-Za-z0-9_-]+)|\{([A-Za-z0-9_.-]+)\})`)
	rightName  = regexp.MustCompile(`\A[A-Za-z0-9_.-]+\z`)
	rightPath  = regexp.MustCompile(`\A[A-Za-z0-9._+-][A-Za-z0-9._+/-]{0,999}\z`)
	named      = regexp.MustCompile(`\A *([A-Za-z0-9_.-]+) *= *(.*)\z`)
	buildKinds = regexp.MustCompile(`\A(w+):w(w*)(\|w*)?(D(w*))?\z`)
)

// model reads a text by other means: block by block, each a line at the left with all inner ones behind it.
type model struct {
	file  map[string]string
	rules map[string]map[string]string
	edges []modelEdge
	told  manifest.Manifest
}

type modelEdge struct {
	line int
	rule map[string]string
	own  map[string]string
}

func expandBy(text string, scopes ...map[string]string) (string, api.Errno) {
	if !rightText.MatchString(text) {
		return "", api.ErrParse
	}
	s := dollar.ReplaceAllStringFunc(text, func(s string) string {
		m := dollar.FindStringSubmatch(s)
		for _, texts := range scopes {
			if text, ok := texts[m[2]+m[3]]; ok {
				return m[1] + text
			}
		}
		return m[1]
	})
	if len(s) > 1<<14 {
		return "", api.ErrLong
	}
	return s, api.OK
}

func cleanBy(s string) (string, api.Errno) {
	c := gopath.Clean(s)
	if !rightPath.MatchString(s) || c == "." || c == ".." || strings.HasPrefix(c, "../") || len(c) > 100 {
		return "", api.ErrParse
	}
	return c, api.OK
}

func (o *model) pathsBy(words []string) (paths []string, e api.Errno) {
	for _, word := range words {
		s, e := expandBy(word, o.file)
		if e == api.OK {
			s, e = cleanBy(s)
		}
		if e != api.OK {
			return nil, e
		}
		paths = append(paths, s)
	}
	return paths, api.OK
}

// kindsOf has a letter for each word.
func kindsOf(words []string) string {
	var kinds string
	for _, word := range words {
		if i := slices.Index([]string{":", "|", "||"}, word); i >= 0 {
			kinds += ":|D"[i : i+1]
		} else {
			kinds += "w"
		}
	}
	return kinds
}

// text is a text of a NAME = TEXT line, expanded as the file is now.
func (o *model) text(line string) (name, text string, e api.Errno) {
	m := named.FindStringSubmatch(line)
	if m == nil {
		return "", "", api.ErrParse
	}
	text, e = expandBy(m[2], o.file)
	return m[1], text, e
}

// block reads one, and tells the line of it that is wrong, from 0 on.
func (o *model) block(lines []lex.Line) (int, api.Errno) {
	first, inner := lines[0], lines[1:]
	words := lex.Words(first.Text)
	var head string
	if len(words) > 0 {
		head = words[0]
	}
	if first.Inner {
		return 0, api.ErrParse
	}
	switch head {
	case "rule":
		return o.ruleBlock(words, inner)
	case "build":
		return o.buildBlock(first.Number, words, inner)
	case "default":
		if kinds := kindsOf(words[1:]); kinds == "" || strings.Trim(kinds, "w") != "" {
			return 0, api.ErrParse
		}
		paths, e := o.pathsBy(words[1:])
		if e != api.OK {
			return 0, e
		}
		o.told.Defaults = append(o.told.Defaults, paths...)
	default:
		name, text, e := o.text(first.Text)
		if e != api.OK {
			return 0, e
		}
		o.file[name] = text
	}
	if len(inner) > 0 {
		return 1, api.ErrParse
	}
	return 0, api.OK
}

func (o *model) ruleBlock(words []string, inner []lex.Line) (int, api.Errno) {
	if len(words) != 2 || !rightName.MatchString(words[1]) || o.rules[words[1]] != nil {
		return 0, api.ErrParse
	}
	texts := map[string]string{}
	for i, l := range inner {
		m := named.FindStringSubmatch(l.Text)
		if m == nil || !slices.Contains([]string{"command", "depfile", "description"}, m[1]) {
			return i + 1, api.ErrParse
		}
		texts[m[1]] = m[2]
	}
	if texts["command"] == "" {
		return 0, api.ErrParse
	}
	o.rules[words[1]] = texts
	return 0, api.OK
}

func (o *model) buildBlock(number int, words []string, inner []lex.Line) (int, api.Errno) {
	if len(o.edges) == 200 {
		return 0, api.ErrLong
	}
	words = words[1:]
	at := buildKinds.FindStringSubmatchIndex(kindsOf(words))
	if at == nil || o.rules[words[at[3]+1]] == nil {
		return 0, api.ErrParse
	}
	var rows [4][]string
	for i, part := range [4]int{1, 2, 3, 5} {
		if from, to := at[2*part], at[2*part+1]; from >= 0 {
			if part == 3 {
				from++
			}
			var e api.Errno
			if rows[i], e = o.pathsBy(words[from:to]); e != api.OK {
				return 0, e
			}
		}
	}
	edge := modelEdge{number, o.rules[words[at[3]+1]], map[string]string{}}
	for i, l := range inner {
		name, text, e := o.text(l.Text)
		if e != api.OK {
			return i + 1, e
		}
		edge.own[name] = text
	}
	o.edges = append(o.edges, edge)
	o.told.Edges = append(o.told.Edges, manifest.Edge{Outs: rows[0], Ins: rows[1], Implicit: rows[2], Order: rows[3]})
	return 0, api.OK
}

// end tells an edge's command and depfile.
func (o *model) end(i int) api.Errno {
	e := &o.told.Edges[i]
	implied := map[string]string{"in": strings.Join(e.Ins, " "), "out": strings.Join(e.Outs, " ")}
	command, err := expandBy(o.edges[i].rule["command"], implied, o.edges[i].own, o.file)
	if err == api.OK && command == "" {
		err = api.ErrParse
	}
	if err != api.OK {
		return err
	}
	depfile, err := expandBy(o.edges[i].rule["depfile"], implied, o.edges[i].own, o.file)
	if err == api.OK && depfile != "" {
		depfile, err = cleanBy(depfile)
	}
	e.Command, e.Depfile = command, depfile
	return err
}

// readBy is Parse, by the model.
func readBy(text string) (manifest.Manifest, int, api.Errno) {
	lines, number, e := lex.Lines(text)
	if e != api.OK {
		return manifest.Manifest{}, number, e
	}
	o := &model{file: map[string]string{}, rules: map[string]map[string]string{}}
	for len(lines) > 0 {
		n := 1
		for n < len(lines) && lines[n].Inner {
			n++
		}
		if wrong, e := o.block(lines[:n]); e != api.OK {
			return manifest.Manifest{}, lines[wrong].Number, e
		}
		lines = lines[n:]
	}
	for i := range o.edges {
		if e := o.end(i); e != api.OK {
			return manifest.Manifest{}, o.edges[i].line, e
		}
	}
	return o.told, 0, api.OK
}

// meets holds a text against the model, and what was read against what follows (P11.2); it tells whether it was read.
func meets(t *testing.T, text string) bool {
	t.Helper()
	want, number, e := readBy(text)
	if e != api.OK {
		fails(t, text, number, e)
		return false
	}
	m, number, e := manifest.Parse(text)
	if number != 0 || e != api.OK || !same(m, want) {
		t.Fatalf("Parse(%.300q) = %.300q, %d, %d, want %.300q", text, m, number, e, want)
	}
	follows(t, m)
	return true
}

// follows checks that all paths are clean, and that each edge has an output and a command.
func follows(t *testing.T, m manifest.Manifest) {
	t.Helper()
	rows := [][]string{m.Defaults}
	for _, e := range m.Edges {
		rows = append(rows, e.Outs, e.Ins, e.Implicit, e.Order)
		if e.Depfile != "" {
			rows = append(rows, []string{e.Depfile})
		}
		if len(e.Outs) == 0 || e.Command == "" {
			t.Errorf("an edge: %q", e)
		}
	}
	for _, name := range slices.Concat(rows...) {
		if clean, e := path.Clean(name); e != api.OK || clean != name {
			t.Errorf("%q is not clean", name)
		}
	}
}

// rowsOf hands to do all rows of at most n of these.
func rowsOf(of []string, row []string, n int, do func([]string)) {
	do(row)
	if n > 0 {
		for _, one := range of {
			rowsOf(of, append(row[:len(row):len(row)], one), n-1, do)
		}
	}
}

func TestP11_1_AllShortBuildsLines(t *testing.T) {
	right := 0
	rowsOf([]string{"a", "r", ":", "|", "||"}, nil, 7, func(row []string) {
		if meets(t, r+"build "+strings.Join(row, " ")) {
			right++
		}
	})
	if right != 800 {
		t.Errorf("%d were read", right)
	}
}

func TestP11_1_AllShortRowsOfLines(t *testing.T) {
	lines := []string{"rule r", "rule s", " command = $x $in", " command =", " depfile = $x", "build a: r b", "build $x: s", " x = 1", "x = $x/", "default $x", "# x"}
	right := 0
	rowsOf(lines, nil, 5, func(row []string) {
		if meets(t, strings.Join(row, "\n")) {
			right++
		}
	})
	if right < 500 {
		t.Errorf("%d were read", right)
	}
}

// some is one of these.
func some(chance *rand.Rand, of ...string) string { return of[chance.Intn(len(of))] }

// anyWords is words with blanks ahead, most of them paths.
func anyWords(chance *rand.Rand, least, most int) string {
	var s string
	for range least + chance.Intn(most-least+1) {
		s += some(chance, " ", " ", "  ", " $\n  ") + some(chance, "a", "b.c", "a/b", "./a//b", "a/../b", "$x", "${x}.o", "$y/z", "$x$y", "a$\n", "$x/../b")
		if chance.Intn(60) == 0 {
			s += some(chance, "$", "$;", "..", "/", ":", "|", "||", " $ ", "${", "*", "/../..", "$none", "$h", "$h$h$h", "=", "$\n")
		}
	}
	return s
}

// anyText is what stands behind a =.
func anyText(chance *rand.Rand) string {
	var s string
	for range chance.Intn(4) {
		s += some(chance, "a", "b", "/", "$x", "$y", "${x}", "$in", "$out", " ", ".", "$$", "$ ", "$:", "|", "=", "$\n ")
		if chance.Intn(60) == 0 {
			s += some(chance, "$;", "${", "$.", "$h", "$h$h", "$", "\t")
		}
	}
	return s
}

// anyBlock is a line at the left, most often one that has its form, with inner ones.
func anyBlock(chance *rand.Rand, rule int) string {
	var s string
	blanks := func() string { return some(chance, " ", "  ", "    ") }
	switch chance.Intn(12) {
	case 0, 1, 2:
		name := "r" + string(rune('0'+rule))
		s = "rule " + name + "\n" + blanks() + "command " + "= " + some(chance, "c ", "", "$") + anyText(chance) + "\n"
		for range chance.Intn(3) {
			s += blanks() + some(chance, "command", "depfile", "depfile", "description") + some(chance, "=", " = ") + anyText(chance) + "\n"
		}
	case 3, 4, 5, 6, 7:
		s = "build" + anyWords(chance, 1, 2) + some(chance, ":", " : ", ": ") + "r" + string(rune('0'+chance.Intn(rule+1))) + anyWords(chance, 0, 3)
		if chance.Intn(3) == 0 {
			s += some(chance, " |", "|") + anyWords(chance, 0, 2)
		}
		if chance.Intn(3) == 0 {
			s += some(chance, " ||", "||") + anyWords(chance, 0, 2)
		}
		s += "\n"
		for range chance.Intn(3) {
			s += blanks() + some(chance, "x", "y", "in", "out", "depfile") + some(chance, "=", " = ") + anyText(chance) + "\n"
		}
	case 8:
		s = "default" + anyWords(chance, 1, 3) + "\n"
	case 9:
		s = some(chance, "#", "\n", "  # x\n", "   \n") + "\n"
	default:
		s = some(chance, "x", "y", "in", "z") + some(chance, "=", " = ") + anyText(chance) + "\n"
	}
	if chance.Intn(120) == 0 {
		at := chance.Intn(len(s))
		s = s[:at] + some(chance, "", " ", "$", "\n", ":", "|", "=", "a", "\n ", "\x00") + s[at+1:]
	}
	return s
}

func TestP11_1_ManyTexts(t *testing.T) {
	right := 0
	for seed := range int64(20000) {
		chance := rand.New(rand.NewSource(seed))
		text := "x = a\ny = b/c\n"
		if chance.Intn(2) == 0 {
			text += half
		}
		text += "rule r0\n command = c $in $out $x\n depfile = $y\n"
		rule := 1
		for range chance.Intn(8) {
			s := anyBlock(chance, rule)
			if strings.HasPrefix(s, "rule") {
				rule++
			}
			text += s
		}
		if meets(t, text) {
			right++
		}
	}
	if right < 4000 || right > 16000 {
		t.Errorf("%d were read", right)
	}
}

func TestP11_1_TurnedByteByByte(t *testing.T) {
	const text = "d = out\nrule cc\n  command = inc $in > $out\n  depfile = $out.d\n\nrule x\n command = y$d\nbuild $d/a.o: cc a.c $\n  | a.h || gen\n  d = ${d}x\nbuild gen : x ./b//c\n# end\ndefault $d/a.o gen\nd = late\n"
	if !meets(t, text) {
		t.Fatal("it has the form")
	}
	for i := range len(text) {
		meets(t, text[:i])
		meets(t, text[i:])
		meets(t, text[:i]+text[i+1:])
		for _, c := range "\n $:|=#a/.{\x00" {
			meets(t, text[:i]+string(c)+text[i:])
			meets(t, text[:i]+string(c)+text[i+1:])
		}
	}
}

func TestP11_2_PathsOutputsAndCommands(t *testing.T) {
	chance := rand.New(rand.NewSource(11))
	right := 0
	for range 20000 {
		text := "x = " + anyText(chance) + "\nrule r\n command = " + anyText(chance) + "\n depfile = " + anyText(chance) + "\nbuild" + anyWords(chance, 0, 2) + ": r" + anyWords(chance, 0, 2) + "\ndefault" + anyWords(chance, 0, 2)
		if m, number, e := manifest.Parse(text); e == api.OK {
			right++
			follows(t, m)
		} else if number == 0 || m.Edges != nil || m.Defaults != nil {
			t.Errorf("Parse(%q) = %q, %d, %d", text, m, number, e)
		}
	}
	if right < 400 {
		t.Errorf("%d were read", right)
	}
}
