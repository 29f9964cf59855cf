package script_test

import (
	"bytes"
	"math/rand"
	"slices"
	"strings"
	"testing"

	"bellows/api"
	"bellows/script"
	"bellows/world"
)

// tape is bytes that are gone through one by one, by the words alone.
type tape struct {
	b           []byte
	short, form bool
}

func (r *tape) number(size int) int {
	n := 0
	for i := range size {
		if len(r.b) == 0 {
			r.short = true
			return 0
		}
		n += int(r.b[0]) << (8 * i)
		r.b = r.b[1:]
	}
	return n
}

func (r *tape) count() int {
	n := r.number(4)
	r.form = r.form || n >= 1<<31
	return n
}

func (r *tape) text() string {
	size := r.number(2)
	if size > len(r.b) {
		// Nobody knows where anything behind it would stand.
		r.b, r.short = nil, true
		return ""
	}
	s := string(r.b[:size])
	r.b = r.b[size:]
	return s
}

// act goes on behind what is wrong, so that all that is wrong of an act is known.
func (r *tape) act() world.Act {
	x := world.Act{Kind: r.number(1)}
	switch x.Kind {
	case write, add:
		x.Name, x.B = r.text(), []byte(r.text())
	case cut:
		x.Name, x.N = r.text(), r.count()
	case remove, sync, read:
		x.Name = r.text()
	case build:
		for n := r.count(); n > 0 && !r.short; n-- {
			x.Names = append(x.Names, r.text())
		}
	case tidy, compact:
	case arm:
		x.N = (r.number(4)+1<<31)%(1<<32) - 1<<31
	case restart:
		x.N = r.count()
		for n := r.count(); n > 0 && !r.short; n-- {
			x.Tails = append(x.Tails, r.count())
		}
	default:
		r.form = true
	}
	return x
}

// reading is what the words say of reading.
func reading(b []byte) ([]world.Act, api.Errno) {
	r := &tape{b: b}
	var l []world.Act
	for len(r.b) > 0 {
		l = append(l, r.act())
		switch {
		case r.form:
			return nil, api.ErrForm
		case r.short:
			return nil, api.ErrShort
		}
	}
	return l, api.OK
}

// holds asks of bytes for all that is promised of reading, and of writing what was read.
func holds(t *testing.T, b []byte) api.Errno {
	t.Helper()
	want, wrong := reading(b)
	got, e := script.Read(b)
	if e != wrong || !sameActs(got, want) {
		t.Fatalf("Read(%v) = %.200v, %d, want %.200v, %d", b, got, e, want, wrong)
	}
	if e != api.OK {
		return e
	}
	if again, e := script.Write(got); e != api.OK || !bytes.Equal(again, b) {
		t.Fatalf("Write(%v) = %v, %d, want %v", got, again, e, b)
	}
	return e
}

// TestP21_2_AllShortBytes: what is read is written as it was.
func TestP21_2_AllShortBytes(t *testing.T) {
	met := map[api.Errno]int{}
	for b0 := range 256 {
		met[holds(t, []byte{byte(b0)})]++
		for b1 := range 256 {
			met[holds(t, []byte{byte(b0), byte(b1)})]++
		}
	}
	few := []byte{0, 1, 2, 3, 4, 6, 7, 9, 10, 12, 128}
	rows := 1
	for range 5 {
		rows *= len(few)
	}
	for _, head := range [][]byte{nil, {6, 1, 0, 0, 0}, {10, 0, 0, 0, 0, 1}, {3, 1, 0}, {6, 2, 0, 0, 0, 0}} {
		for row := range rows {
			b := slices.Clone(head)
			for n := row; n > 0; n /= len(few) {
				b = append(b, few[n%len(few)])
			}
			met[holds(t, b)]++
		}
	}
	for _, e := range []api.Errno{api.OK, api.ErrForm, api.ErrShort} {
		if met[e] < 10000 {
			t.Errorf("%d was met %d times alone", e, met[e])
		}
	}
}

func pick[T any](chance *rand.Rand, of ...T) T { return of[chance.Intn(len(of))] }

// rare is true once in so many times.
func rare(chance *rand.Rand, in int) bool { return chance.Intn(in) == 0 }

// anyText is mostly short; once in as many times as far tells it is too long.
func anyText(chance *rand.Rand, far int) string {
	switch {
	case rare(chance, far):
		return strings.Repeat("x", longest+1)
	case rare(chance, 100):
		return strings.Repeat("y", pick(chance, 63, 64, 65, 127, 128, 129, 1000, longest))
	}
	return pick(chance, "", "a", "build.ninja", "o", "#include a\n", "\x00\xff")
}

func anyNumber(chance *rand.Rand, far int) int {
	if rare(chance, far) {
		return pick(chance, -1, -1<<31, -1<<31-1, most+1, 1<<32, 1<<63-1, -1<<63)
	}
	return pick(chance, 0, 1, 2, chance.Intn(300), 1<<16, most)
}

// anyAct has something wrong now and then, once in as many times as far tells.
func anyAct(chance *rand.Rand, far int) world.Act {
	x := world.Act{Kind: write + chance.Intn(read)}
	if rare(chance, far) {
		x.Kind = pick(chance, 0, -1, 12, 256+write, 1<<32+remove)
	}
	fields := [5]bool{}
	if x.Kind >= write && x.Kind <= read {
		fields = has(x.Kind)
	}
	for i := range fields {
		fields[i] = fields[i] || rare(chance, far)
	}
	if fields[0] {
		x.Name = anyText(chance, far)
	}
	if fields[1] {
		x.B = []byte(anyText(chance, far))
	}
	if fields[2] {
		x.N = anyNumber(chance, far)
	}
	if fields[3] {
		for range chance.Intn(4) {
			x.Names = append(x.Names, anyText(chance, far))
		}
	}
	if fields[4] {
		for range chance.Intn(4) {
			x.Tails = append(x.Tails, anyNumber(chance, far))
		}
	}
	return x
}

// faulty tells what the words say of the first act that is wrong.
func faulty(l []world.Act) api.Errno {
	for _, x := range l {
		if x.Kind < write || x.Kind > read {
			return api.ErrForm
		}
		for i, there := range []bool{x.Name != "", len(x.B) > 0, x.N != 0, len(x.Names) > 0, len(x.Tails) > 0} {
			if there && !has(x.Kind)[i] {
				return api.ErrForm
			}
		}
		least := 0
		if x.Kind == arm {
			least = -1 << 31
		}
		if x.N < least || x.N > most || len(x.Tails) > 0 && (slices.Min(x.Tails) < 0 || slices.Max(x.Tails) > most) {
			return api.ErrArg
		}
		for _, s := range append(names(x.Name, string(x.B)), x.Names...) {
			if len(s) > longest {
				return api.ErrLong
			}
		}
	}
	return api.OK
}

// TestP21_2_ManyScripts: what is written is read as it was, by the model, too.
func TestP21_2_ManyScripts(t *testing.T) {
	met := map[api.Errno]int{}
	for seed := range int64(20000) {
		chance := rand.New(rand.NewSource(seed))
		far := pick(chance, 20, 100, 1<<40)
		var l []world.Act
		for range chance.Intn(10) {
			l = append(l, anyAct(chance, far))
		}
		want := faulty(l)
		b, e := script.Write(l)
		if e != want || e != api.OK && len(b) != 0 {
			t.Fatalf("script %d: Write(%.1000v) = %d, want %d", seed, l, e, want)
		}
		met[e]++
		if e != api.OK {
			continue
		}
		if got, e := script.Read(b); e != api.OK || !sameActs(got, l) {
			t.Fatalf("script %d: Read(%.1000v) = %.1000v, %d, want %.1000v", seed, b, got, e, l)
		}
		if len(b) > 0 && len(b) < 1<<12 {
			torn := slices.Clone(b)
			torn[chance.Intn(len(b))] = byte(chance.Intn(256))
			holds(t, torn)
			holds(t, torn[:chance.Intn(len(torn)+1)])
		}
	}
	for e, least := range map[api.Errno]int{api.OK: 10000, api.ErrForm: 2000, api.ErrArg: 200, api.ErrLong: 200} {
		if met[e] < least {
			t.Errorf("%d was met %d times alone", e, met[e])
		}
	}
}

// TestP21_2_EachSize: an act is read whatever its size, and whatever stands behind it.
func TestP21_2_EachSize(t *testing.T) {
	var sizes []int
	for size := range 140 {
		sizes = append(sizes, size)
	}
	for bits := 8; bits < 16; bits++ {
		for more := -6; more < 3; more++ {
			sizes = append(sizes, 1<<bits+more)
		}
	}
	for _, size := range append(sizes, longest-1, longest) {
		s := strings.Repeat("\x07", size)
		for _, x := range []world.Act{
			{Kind: remove, Name: s}, {Kind: write, Name: "a", B: []byte(s)}, {Kind: cut, Name: s, N: size}, {Kind: build, Names: names(s, s)},
			{Kind: build, Names: make([]string, size)}, {Kind: restart, N: size, Tails: make([]int, size)},
		} {
			for _, behind := range [][]world.Act{nil, {{Kind: tidy}}, {x, {Kind: arm, N: -1}}} {
				l := append([]world.Act{x}, behind...)
				b, e := script.Write(l)
				if got, again := script.Read(b); e != api.OK || again != api.OK || !sameActs(got, l) {
					t.Fatalf("of kind %d, size %d: %d, %d", x.Kind, size, e, again)
				}
				if len(behind) == 0 {
					refusesBytes(t, api.ErrShort, b[:len(b)-1]...)
				}
			}
		}
	}
}

// TestP21_2_LongScripts: what they take grows as their bytes do, no faster.
func TestP21_2_LongScripts(t *testing.T) {
	const n = 1 << 18
	acts := func(x world.Act) []world.Act { return slices.Repeat([]world.Act{x}, n) }
	for _, l := range [][]world.Act{
		acts(world.Act{Kind: tidy}), acts(world.Act{Kind: remove}), acts(world.Act{Kind: restart, N: 1, Tails: []int{2}}), acts(world.Act{Kind: write, Name: "a", B: []byte("12")}),
		{{Kind: build, Names: slices.Repeat(names("ab"), n)}}, {{Kind: restart, Tails: slices.Repeat([]int{most}, n)}, {Kind: compact}},
	} {
		b, e := script.Write(l)
		if got, again := script.Read(b); e != api.OK || again != api.OK || !sameActs(got, l) {
			t.Errorf("of kind %d: %d, %d", l[0].Kind, e, again)
		}
	}
}

// TestP21_2_ManyPlays: a life that is played tells what one that is run does, whatever the bytes are.
func TestP21_2_ManyPlays(t *testing.T) {
	manifest := []byte("rule r\n command = rev $in > $out\nrule i\n command = inc $in > $out : d\n depfile = d\nbuild o: r a\nbuild p: i b\n")
	met := map[api.Errno]int{}
	for seed := range int64(3000) {
		chance := rand.New(rand.NewSource(seed))
		l := []world.Act{{Kind: write, Name: api.Manifest, B: manifest}, {Kind: write, Name: "a", B: []byte("12")}, {Kind: write, Name: "b", B: []byte("#include a\n")}}
		for range chance.Intn(15) {
			x := anyAct(chance, 1<<40)
			if rare(chance, 2) {
				x = world.Act{Kind: pick(chance, build, build, tidy, compact)}
			}
			l = append(l, x)
		}
		quota := pick(chance, 1<<20, chance.Intn(1000), -1)
		b, e := script.Write(l)
		want, wrong := world.Run(quota, l)
		got, again := script.Play(quota, b)
		if e != api.OK || again != wrong || !slices.EqualFunc(got, want, sameOut) {
			t.Fatalf("life %d: Play = %v, %d, want %v, %d", seed, got, again, want, wrong)
		}
		for _, out := range got {
			met[out.E]++
		}
		b[chance.Intn(len(b))] ^= 1 << chance.Intn(8)
		l, wrong = script.Read(b)
		if wrong == api.OK {
			want, wrong = world.Run(quota, l)
		} else {
			want = nil
		}
		if got, e := script.Play(quota, b); e != wrong || !slices.EqualFunc(got, want, sameOut) {
			t.Fatalf("life %d: Play = %v, %d, want %v, %d", seed, got, e, want, wrong)
		}
	}
	for _, e := range []api.Errno{api.OK, api.ErrName, api.ErrMissing, api.ErrSpace, api.ErrDown, api.ErrArg, api.ErrParse} {
		if met[e] < 20 {
			t.Errorf("%d was met %d times alone", e, met[e])
		}
	}
}
