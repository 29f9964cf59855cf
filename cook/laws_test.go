package cook_test

import (
	"math/rand"
	"reflect"
	"regexp"
	"slices"
	"strconv"
	"strings"
	"testing"

	"bellows/api"
	"bellows/cook"
	"bellows/depfile"
	"bellows/path"
)

// form is that of a command with one blank between two words; no argument is the sign ahead of the outputs.
var form = regexp.MustCompile(`^(once )?(cat|rev|sum|put|fail|inc)((?: (?:[^ >][^ ]*|>[^ ]+))*) >((?: [A-Za-z0-9._+/-]+)+)(?: : ([A-Za-z0-9._+/-]+))?$`)

func wordsBy(s string) []string {
	return slices.DeleteFunc(strings.Split(s, " "), func(word string) bool { return word == "" })
}

// ordered is a command, read by the form.
type ordered struct {
	once       bool
	verb       string
	args, outs []string
	deps       string
}

func model(command string) (ordered, bool) {
	parts := form.FindStringSubmatch(strings.Join(wordsBy(command), " "))
	if parts == nil {
		return ordered{}, false
	}
	o := ordered{parts[1] != "", parts[2], wordsBy(parts[3]), wordsBy(parts[4]), parts[5]}
	for i, out := range o.outs {
		if !path.Right(out) || slices.Contains(o.outs[:i], out) {
			return ordered{}, false
		}
	}
	return o, (o.verb == "inc") == (o.deps != "") && (o.deps == "" || path.Right(o.deps))
}

func firstOf(files []cook.File, name string) (string, bool) {
	i := slices.IndexFunc(files, func(f cook.File) bool { return f.Name == name })
	if i < 0 {
		return "", false
	}
	return string(files[i].B), true
}

// put puts in what lines include: on a pile lies what is left of each file that others are put in.
func put(files []cook.File, text string) (whole string, found []string, right bool) {
	pile, count := []string{text}, 0
	for len(pile) > 0 {
		top := len(pile) - 1
		if pile[top] == "" {
			pile = pile[:top]
			continue
		}
		end := strings.Index(pile[top]+"\n", "\n")
		line := pile[top][:end]
		ended := pile[top][:min(end+1, len(pile[top]))]
		pile[top] = pile[top][len(ended):]
		if len(line) < 9 || line[:9] != "#include " {
			whole += ended
			continue
		}
		name := line[9:]
		more, there := firstOf(files, name)
		count++
		if !path.Right(name) || !there || count > 1000 || len(pile) > 10 {
			return "", nil, false
		}
		if !slices.Contains(found, name) {
			found = append(found, name)
		}
		pile = append(pile, more)
	}
	return whole, found, true
}

// done is what a command makes by the words alone.
func done(command string, declared []string, files []cook.File) (cook.Dish, bool) {
	o, right := model(command)
	if !right || o.verb == "fail" || len(o.args) != 1 && (o.verb == "rev" || o.verb == "inc") || len(o.args) == 0 && o.verb == "sum" {
		return cook.Dish{}, false
	}
	whole := ""
	for _, arg := range o.args {
		b, there := firstOf(files, arg)
		if o.verb != "put" && (!there || !slices.Contains(declared, arg)) {
			return cook.Dish{}, false
		}
		whole += b
	}
	d := cook.Dish{Once: o.once, Depfile: o.deps}
	switch o.verb {
	case "rev":
		back := ""
		for i := range len(whole) {
			back = whole[i:i+1] + back
		}
		whole = back
	case "sum":
		whole = hashOf(whole)
	case "put":
		whole = strings.Join(o.args, " ") + "\n"
	case "inc":
		var found []string
		if whole, found, right = put(files, whole); !right {
			return cook.Dish{}, false
		}
		d.Deps = strings.Join(append([]string{o.outs[0] + ":"}, found...), " ") + "\n"
	}
	for _, out := range o.outs {
		d.Outs = append(d.Outs, cook.File{Name: out, B: []byte(whole)})
	}
	return d, len(whole) <= most
}

// meets holds what a command tells and makes against the model, and tells whether it makes something.
func meets(t *testing.T, command string, declared []string, files []cook.File) bool {
	t.Helper()
	if o, right := model(command); right {
		tells(t, command, o.deps, o.outs...)
	} else {
		formless(t, command)
	}
	want, right := done(command, declared, files)
	if !right {
		fails(t, command, declared, files)
		return false
	}
	if d, e := cook.Cook(command, declared, files); e != api.OK || !same(d, want) {
		t.Errorf("Cook(%.300q, %q, %.300q) = %s, %d, want %s", command, declared, files, told(d), e, told(want))
	}
	return true
}

// same: are two dishes? Bytes that are none may be nil, or not.
func same(a, b cook.Dish) bool {
	for _, d := range []*cook.Dish{&a, &b} {
		d.Outs = slices.Clone(d.Outs)
		for i := range d.Outs {
			d.Outs[i].B = append([]byte{}, d.Outs[i].B...)
		}
	}
	return reflect.DeepEqual(a, b)
}

func TestP15_1_AllShortCommands(t *testing.T) {
	words := []string{"once", "cat", "inc", "a", ">", ":", "o"}
	files := of("a", "#include o\nx", "o", "y", ":", "z", "cat", "c")
	right, all := 0, 0
	var each func(command string, n int)
	each = func(command string, n int) {
		if all++; meets(t, command, []string{"a", "o", ":", "cat"}, files) {
			right++
		}
		if n > 0 {
			for _, word := range words {
				each(command+" "+word, n-1)
			}
		}
	}
	each("", 6)
	if right < 500 {
		t.Errorf("%d of %d make something", right, all)
	}
}

// pick is one of these.
func pick(chance *rand.Rand, of ...string) string { return of[chance.Intn(len(of))] }

// anyName is a file's name; there are few of them, so that most are there.
func anyName(chance *rand.Rand) string { return pick(chance, "a", "b", "c", "x/d", "e.f", "g") }

// anyFiles are files that put in some that stand behind them; now and then one that does not.
func anyFiles(chance *rand.Rand) []cook.File {
	names := []string{"a", "b", "c", "x/d", "e.f", "g"}
	var files []cook.File
	for i, name := range names {
		var text string
		for range chance.Intn(6) {
			switch behind := names[i+1:]; {
			case len(behind) > 0 && chance.Intn(3) > 0:
				text += "#include " + pick(chance, behind...) + "\n"
			case chance.Intn(60) == 0:
				text += pick(chance, "#include "+anyName(chance), "#include none\n", "#include \n", "#include ./g\n")
			default:
				text += pick(chance, "x\n", "\n", "y", "#include", "\x00\xff\n", " #include a\n", strconv.Itoa(chance.Intn(1000))+"\n")
			}
		}
		if chance.Intn(20) > 0 {
			files = append(files, of(name, text)...)
		}
		if chance.Intn(10) == 0 {
			files = append(files, of(anyName(chance), "another")...)
		}
	}
	return files
}

// anyCommand is one; some have not the form, or fail.
func anyCommand(chance *rand.Rand) string {
	verb := pick(chance, "cat", "rev", "sum", "put", "inc", "inc", "inc", "fail")
	command := pick(chance, "", "", "once ") + verb
	many := chance.Intn(4)
	if (verb == "rev" || verb == "inc") && chance.Intn(8) > 0 {
		many = 1
	}
	for range many {
		command += " " + anyName(chance)
	}
	command += " >"
	outs := []string{"o", "p", "q/r", "a", "g"}
	chance.Shuffle(len(outs), func(i, j int) { outs[i], outs[j] = outs[j], outs[i] })
	for _, out := range outs[:chance.Intn(3)+1] {
		command += pick(chance, " ", "  ") + out
	}
	if (verb == "inc") == (chance.Intn(20) > 0) {
		command += " : o.d"
	}
	if chance.Intn(15) == 0 {
		words := strings.Split(command, " ")
		words[chance.Intn(len(words))] = pick(chance, ">", ":", "once", "o", "./o", "", "x y")
		command = strings.Join(words, " ")
	}
	return command
}

func TestP15_1_ManyCommands(t *testing.T) {
	right, all := 0, 0
	for seed := range int64(40000) {
		chance := rand.New(rand.NewSource(seed))
		var declared []string
		for range chance.Intn(30) {
			declared = append(declared, anyName(chance))
		}
		if all++; meets(t, anyCommand(chance), declared, anyFiles(chance)) {
			right++
		}
	}
	if right < all/4 || right > all*9/10 {
		t.Errorf("%d of %d make something", right, all)
	}
}

// namedBy are the files that a command that was done names, and those that it tells in its depfile.
func namedBy(t *testing.T, command string, d cook.Dish) []string {
	named := wordsBy(command)
	if d.Depfile == "" {
		return named
	}
	out, found, e := depfile.Parse(d.Deps)
	if e != api.OK || out != d.Outs[0].Name {
		t.Errorf("Cook(%q): %q is no depfile's text: %q, %d", command, d.Deps, out, e)
	}
	return append(named, found...)
}

func TestP15_2_NothingElseCounts(t *testing.T) {
	for seed := range int64(20000) {
		chance := rand.New(rand.NewSource(seed))
		command, files := anyCommand(chance), anyFiles(chance)
		declared := namesOf(files)
		d, e := cook.Cook(command, declared, files)
		if e != api.OK {
			continue
		}
		named := namedBy(t, command, d)
		var others []cook.File
		for _, f := range files {
			switch {
			case slices.Contains(named, f.Name):
				others = append(others, f)
			case chance.Intn(2) == 0:
				others = append(others, of(f.Name, pick(chance, "", "turned", "#include none\n"))...)
			}
			if chance.Intn(4) == 0 {
				others = append(others, of(pick(chance, "new", "a/new", f.Name), "more")...)
			}
		}
		// What is not among those that a command reads need not be declared, and may be.
		others, declared = append(others, of("z", "z")...), append([]string{"z", "none"}, declared...)
		if again, e := cook.Cook(command, declared, others); e != api.OK || !same(again, d) {
			t.Errorf("Cook(%q, %.300q) = %s, and with others, %.300q, %s, %d", command, files, told(d), others, told(again), e)
		}
	}
}

func TestP15_2_EachFoundCounts(t *testing.T) {
	// Each file that is named as an argument, or told in the depfile, is needed.
	for seed := range int64(5000) {
		chance := rand.New(rand.NewSource(seed))
		command, files := anyCommand(chance), anyFiles(chance)
		d, e := cook.Cook(command, namesOf(files), files)
		if e != api.OK || d.Depfile == "" {
			continue
		}
		_, found, _ := depfile.Parse(d.Deps)
		for _, name := range found {
			less := slices.DeleteFunc(slices.Clone(files), func(f cook.File) bool { return f.Name == name })
			fails(t, command, namesOf(files), less)
		}
	}
}

func TestP15_2_TheSameIsMadeAgain(t *testing.T) {
	for seed := range int64(300) {
		chance := rand.New(rand.NewSource(seed))
		command, files := anyCommand(chance), anyFiles(chance)
		first, e := cook.Cook(command, namesOf(files), files)
		for range 20 {
			if again, err := cook.Cook(command, namesOf(files), files); err != e || !same(again, first) {
				t.Fatalf("Cook(%q, %.300q) = %s, and then %s", command, files, told(first), told(again))
			}
		}
	}
}
