package shell_test

import (
	"fmt"
	"maps"
	"math/rand"
	"slices"
	"strconv"
	"strings"
	"testing"

	"bellows/api"
	"bellows/shell"
	"bellows/world"
)

// model does lines by the words alone, in a world of its own.
type model struct{ w *world.World }

func modelled(t *testing.T) *model {
	t.Helper()
	w, e := world.New(1 << 20)
	if e != api.OK {
		t.Fatal(e)
	}
	return &model{w}
}

// split is a line's words, byte by byte.
func split(line string) []string {
	var words []string
	open := false
	for i := 0; i < len(line) && line[i] != ';'; i++ {
		switch line[i] {
		case 32, 9, 13:
			open = false
		default:
			if !open {
				words = append(words, "")
			}
			words[len(words)-1] += line[i : i+1]
			open = true
		}
	}
	return words
}

// figure is a number, figure by figure; false where it is none.
func figure(word string) (int, bool) {
	n := 0
	for i := range len(word) {
		if word[i] < '0' || word[i] > '9' {
			return 0, false
		}
		n = 10*n + int(word[i]-'0')
		if i > 8 || i > 0 && word[0] == '0' {
			return 0, false
		}
	}
	return n, word != ""
}

// forms tells of each first word how many others a line has at least, and at most.
func forms() map[string][2]int {
	const more = 1 << 30
	return map[string][2]int{"put": {1, more}, "more": {1, more}, "rm": {1, 1}, "sync": {1, 1}, "cat": {1, 1}, "ls": {0, 0}, "build": {0, more}, "clean": {0, 0}, "compact": {0, 0}, "crash": {1, 1}, "up": {2, 2}}
}

// acts tells which act a line is, if it is one.
func acts(words []string) (world.Act, bool) {
	verb, args := words[0], words[1:]
	form, known := forms()[verb]
	if !known || len(args) < form[0] || len(args) > form[1] {
		return world.Act{}, false
	}
	switch verb {
	case "put", "more":
		text := ""
		for i, word := range args[1:] {
			if i > 0 {
				text += " "
			}
			text += word
		}
		return world.Act{Kind: map[string]int{"put": 1, "more": 2}[verb], Name: args[0], B: []byte(text + "\n")}, true
	case "rm", "sync", "cat":
		return world.Act{Kind: map[string]int{"rm": 4, "sync": 5, "cat": 11}[verb], Name: args[0]}, true
	case "build":
		return world.Act{Kind: 6, Names: args}, true
	case "clean", "compact":
		return world.Act{Kind: map[string]int{"clean": 7, "compact": 8}[verb]}, true
	case "crash":
		n, ok := figure(args[0])
		return world.Act{Kind: 9, N: n}, ok
	case "up":
		n, ok := figure(args[0])
		tail, too := figure(args[1])
		return world.Act{Kind: 10, N: n, Tails: []int{tail}}, ok && too
	}
	return world.Act{}, true
}

// line does a line, and tells what it must tell.
func (m *model) line(line string) string {
	if strings.Count(line, "\n") > 0 {
		return "error 4\n"
	}
	words := split(line)
	if len(words) == 0 {
		return ""
	}
	act, ok := acts(words)
	switch {
	case !ok:
		return "error 16\n"
	case words[0] == "ls":
		return strings.Join(m.w.Disk().Names(), " ") + "\n"
	}
	out := m.w.Do(act)
	told := ""
	for _, name := range out.Names {
		told += " " + name
	}
	wrong := fmt.Sprintf("error %d", out.E)
	switch {
	case words[0] == "build" && out.E == api.OK:
		return "ran" + told + "\n"
	case words[0] == "build":
		return wrong + " ran" + told + "\n"
	case words[0] == "clean" && out.E == api.OK:
		return "gone" + told + "\n"
	case words[0] == "clean":
		return wrong + " gone" + told + "\n"
	case out.E != api.OK:
		return wrong + "\n"
	case words[0] == "cat":
		return fmt.Sprintf("%d : %s\n", len(out.B), strings.SplitN(string(out.B), "\n", 2)[0])
	}
	return "ok\n"
}

// pick is one of these.
func pick(chance *rand.Rand, of ...string) string { return of[chance.Intn(len(of))] }

// anyLine is a line, mostly one that does something.
func anyLine(chance *rand.Rand) string {
	name := pick(chance, "a", "b", "c", "d", "e/f", "mine", "build.ninja", ".build_log")
	small := strconv.Itoa(chance.Intn(14))
	switch chance.Intn(16) {
	case 0, 1:
		return "put " + pick(chance, "a", "a", "mine", "b", "c", "e/f", "/x", "x/..") + pick(chance, "", " 1", " 1 2", " #include mine")
	case 2:
		return "more " + pick(chance, "a", "mine", "b", "d") + pick(chance, "", " 3", " #include a")
	case 3:
		return "rm " + name
	case 4:
		return "sync " + name
	case 5:
		return "cat " + name
	case 6:
		return "ls"
	case 7:
		return "clean"
	case 8:
		return "compact"
	case 9:
		return "crash " + small
	case 10, 11:
		return "up " + small + " " + strconv.Itoa(chance.Intn(3)*chance.Intn(150))
	case 12:
		return pick(chance, "up 1", "up 01 1", "crash -1", "crash", "rm", "rm a b", "ls a", "clean b", "nothing", "put", "cat", "crash 1234567890")
	case 13:
		return "build " + pick(chance, "b", "c", "d b", "e/f", "zz", "a")
	}
	return "build"
}

// manifests have edges, which no line writes.
func manifests() []string {
	const found = rules + "rule inc\n command = inc $in > $out : x\n depfile = x\nrule sum\n command = once sum $in > $out\n"
	return []string{
		rules + "build b: rev a\nbuild c: rev b\n",
		rules + "build c: rev a\nbuild d e/f: put || c\ndefault d\n",
		found + "build b: inc a\nbuild c: sum b\nbuild d: rev c\n",
		found + "build e/f: sum a mine\nbuild b: rev e/f\nbuild d: fail | b\n",
		rules,
	}
}

// strewn is a line with more blanks, and perhaps a note.
func strewn(chance *rand.Rand, line string) string {
	blanks := func() string {
		all := ""
		for range chance.Intn(4) {
			all += pick(chance, " ", "\t", "\r")
		}
		return all
	}
	told := blanks()
	for _, word := range strings.Split(line, " ") {
		told += word + " " + blanks()
	}
	if chance.Intn(2) == 0 {
		told = strings.TrimRight(told, " \t\r") + blanks() + pick(chance, ";", "; note", ";;", ";rm a", "; put b 1 ; x", ";\x00\xff")
	}
	return told
}

// TestP22_2_ManyLives: a line tells, and leaves, what the words say; notes and blanks, and lines that are nothing, change nothing of it.
func TestP22_2_ManyLives(t *testing.T) {
	met := map[string]int{}
	for seed := range int64(1500) {
		chance := rand.New(rand.NewSource(seed))
		x, y, m := begun(t), begun(t), modelled(t)
		var lines []string
		for range 60 {
			if chance.Intn(8) == 0 {
				text := pick(chance, manifests()...)
				for _, w := range []*world.World{x.World(), y.World(), m.w} {
					w.Disk().Write(api.Manifest, []byte(text))
				}
			}
			line := anyLine(chance)
			lines = append(lines, line)
			told, want := x.Line(line), m.line(line)
			if told != want {
				t.Errorf("%q tells %q, want %q", line, told, want)
			}
			if chance.Intn(3) == 0 {
				y.silent(pick(chance, "", " ", "\t;", "; ls", "\r"))
			}
			if other := strewn(chance, line); y.Line(other) != told {
				t.Errorf("%q tells something else than %q", other, line)
			}
			if x.state() != y.state() || x.state() != (&session{t, wrap(m)}).state() {
				t.Errorf("%q leaves %q", line, x.state())
			}
			if t.Failed() {
				t.Fatalf("life %d, of %q", seed, lines)
			}
			count(met, line, told)
		}
	}
	for what, least := range map[string]int{"ran": 2000, "ran more": 1000, "error 6 ran": 500, "error 8 ran": 500, "error 8 ran more": 100, "error 13 ran": 100, "error 13 ran more": 50, "gone": 500, "gone more": 100, "error 8 gone": 300, "error 8 gone more": 2, "ls": 500, "ls more": 500, "cat": 500, "cat more": 500, "ok": 5000, "error 16": 2000, "error 6": 500, "error 8": 2000, "error 5": 100} {
		if met[what] < least {
			t.Errorf("%s was met %d times alone", what, met[what])
		}
	}
}

// wrap is a shell in a model's world.
func wrap(m *model) *shell.Shell { return shell.Of(m.w) }

// count counts what a line tells.
func count(met map[string]int, line, told string) {
	words := strings.Fields(told)
	more := map[bool]string{true: " more"}
	switch {
	case len(words) == 0:
		met["ls"]++
	case slices.Contains(words, "ran"), slices.Contains(words, "gone"):
		at := max(slices.Index(words, "ran"), slices.Index(words, "gone"))
		met[strings.Join(words[:at+1], " ")+more[at+1 < len(words)]]++
	case words[0] == "error", words[0] == "ok":
		met[strings.Join(words, " ")]++
	case line == "ls":
		met["ls more"]++
	default:
		met["cat"+more[len(words) > 2]]++
	}
}

// TestP22_1_AnyLines: whatever bytes a line has, it tells what the words say.
func TestP22_1_AnyLines(t *testing.T) {
	verbs := slices.Sorted(maps.Keys(forms()))
	pieces := append(slices.Clone(verbs), " ", " ", "\t", "\r", ";", "\n", "a", "b ", " 0", " 1", "9", "-", "\x00", "\xff", "é", "\x0b", "/", " a", " a", "\u00a0", "build.ninja")
	met := map[string]int{}
	for seed := range int64(3000) {
		chance := rand.New(rand.NewSource(seed))
		x, m := begun(t), modelled(t)
		for range 40 {
			line := ""
			if chance.Intn(4) > 0 {
				line = pick(chance, verbs...) + " "
			}
			for range chance.Intn(6) {
				line += pick(chance, pieces...)
			}
			told, want := x.Line(line), m.line(line)
			if told != want || x.state() != (&session{t, wrap(m)}).state() {
				t.Fatalf("%q tells %q, want %q, or leaves something else", line, told, want)
			}
			count(met, line, told)
		}
	}
	for what, least := range map[string]int{"ok": 5000, "error 16": 5000, "error 4": 5000, "error 6": 1000, "error 5": 500, "error 8": 300, "ls": 500, "cat": 50, "cat more": 50, "ran": 5, "error 6 ran": 500, "error 6 gone": 500} {
		if met[what] < least {
			t.Errorf("%s was met %d times alone", what, met[what])
		}
	}
}

// TestP22_1_AllShortLines: each row of at most four words, or bytes, of a few.
func TestP22_1_AllShortLines(t *testing.T) {
	of := []string{"put ", "more ", "rm ", "cat ", "ls", "crash ", "up ", "build ", "a ", "0 ", "01 ", ";", "\n", "\t"}
	rows := []string{""}
	for range 4 {
		for _, row := range rows {
			for _, piece := range of {
				rows = append(rows, row+piece)
			}
		}
		slices.Sort(rows)
		rows = slices.Compact(rows)
	}
	x, m := begun(t), modelled(t)
	for i, row := range rows {
		if told, want := x.Line(row), m.line(row); told != want {
			t.Fatalf("%q tells %q, want %q", row, told, want)
		}
		if i%100 == 0 && x.state() != (&session{t, wrap(m)}).state() {
			t.Fatalf("%q leaves something else", row)
		}
	}
}

// TestP22_1_RunIsLines: all lines tell what they tell one by one, of a shell that is new, however often.
func TestP22_1_RunIsLines(t *testing.T) {
	for seed := range int64(500) {
		chance := rand.New(rand.NewSource(seed))
		x := begun(t)
		var lines []string
		want := ""
		for range chance.Intn(50) {
			line := pick(chance, anyLine(chance), strewn(chance, anyLine(chance)), "", ";")
			lines = append(lines, line)
			want += x.Line(line)
		}
		whole := strings.Join(lines, "\n") + pick(chance, "", "\n", "\n\n")
		for range 2 {
			if told, e := shell.Run(whole); e != api.OK || told != want {
				t.Fatalf("Run(%q) = %q, %d, want %q", whole, told, e, want)
			}
		}
	}
}
