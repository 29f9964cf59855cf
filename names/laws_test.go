package names_test

import (
	"bytes"
	"fmt"
	"math/rand"
	"slices"
	"strings"
	"testing"

	"bellows/api"
	"bellows/names"
)

// model is a book by other means: what was found, as it was told.
type model struct {
	names []string
	found map[string]names.Dep
}

// know numbers a name, if it is new.
func (m *model) know(name string) {
	if !slices.Contains(m.names, name) {
		m.names = append(m.names, name)
	}
}

// learn takes what was found of an output, with its names.
func (m *model) learn(d names.Dep) {
	m.know(d.Out)
	for _, name := range d.Deps {
		m.know(name)
	}
	m.found[d.Out] = d
}

// all is what was found of those that are wanted, in the order of outputs.
func (m *model) all(wanted func(out string) bool) []names.Dep {
	var l []names.Dep
	for out, d := range m.found {
		if wanted(out) {
			l = append(l, d)
		}
	}
	slices.SortFunc(l, func(x, y names.Dep) int { return strings.Compare(x.Out, y.Out) })
	return l
}

// anyName is one of a few.
func anyName(chance *rand.Rand) string {
	return []string{"", "a", "b", "a/b", "ab", "B", "c", "d", "e", "\xff"}[chance.Intn(10)]
}

// anyDep is what was found, of a few names.
func anyDep(chance *rand.Rand) names.Dep {
	d := dep(anyName(chance), int(chance.Uint64()>>(2+chance.Intn(62))))
	for range chance.Intn(6) {
		d.Deps = append(d.Deps, anyName(chance))
	}
	return d
}

func everyOut(string) bool { return true }

func TestP7_4_ManyBooks(t *testing.T) {
	for seed := range int64(500) {
		chance := rand.New(rand.NewSource(seed))
		b, m := names.New(), &model{found: map[string]names.Dep{}}
		var records [][]byte
		for range chance.Intn(30) {
			d := anyDep(chance)
			l, e := b.Plan(d)
			if e != api.OK {
				t.Fatalf("Plan(%v): %d", d, e)
			}
			for _, record := range l {
				takes(t, b, record)
			}
			records = append(records, l...)
			m.learn(d)
			if got, ok := b.Look(d.Out); !ok || !same(got, d) {
				t.Fatalf("planned %v, and Look tells %v, %t", d, got, ok)
			}
			hasNames(t, b, m.names...)
			tells(t, b, m.all(everyOut)...)
		}
		again := load(t, records...)
		hasNames(t, again, m.names...)
		tells(t, again, m.all(everyOut)...)
		if state(again) != state(b) {
			t.Errorf("loaded %s, want %s", state(again), state(b))
		}
		keeps(t, b, m, chance)
		if t.Failed() {
			t.Fatalf("book %d", seed)
		}
	}
}

// keeps checks the records of some outputs.
func keeps(t *testing.T, b *names.Book, m *model, chance *rand.Rand) {
	t.Helper()
	var live []string
	for range chance.Intn(12) {
		live = append(live, anyName(chance))
	}
	records := b.Records(live)
	kept := m.all(func(out string) bool { return slices.Contains(live, out) })
	anew := load(t, records...)
	tells(t, anew, kept...)
	// It has no name but those that the outputs need, and the records are those of planning, one output behind the other.
	needed, planned := &model{found: map[string]names.Dep{}}, names.New()
	for _, d := range kept {
		needed.learn(d)
		l, _ := planned.Plan(d)
		for i, record := range l {
			if len(records) == 0 || !bytes.Equal(records[0], record) {
				t.Fatalf("record %d of %v: %v, want %v", i, d, records, record)
			}
			takes(t, planned, record)
			records = records[1:]
		}
	}
	if len(records) != 0 {
		t.Errorf("more than is planned: %v", records)
	}
	hasNames(t, anew, needed.names...)
	// Once more nothing is turned.
	if again := load(t, anew.Records(live)...); state(again) != state(anew) {
		t.Errorf("%s, want %s", state(again), state(anew))
	}
}

func TestP7_4_RecordsOfMoreThanMayBePlanned(t *testing.T) {
	long := strings.Repeat("n", 65535)
	records := [][]byte{ofName(long), ofName("o"), ofName("p")}
	var deps []string
	var numbers []int
	for i := range 1500 {
		name := fmt.Sprint("d", i)
		records = append(records, ofName(name))
		deps, numbers = append(deps, name), append(numbers, i+3)
	}
	records = append(records, ofOutput(1, 5, numbers...), ofOutput(2, 6, 0), ofOutput(0, 7, 1))
	b := load(t, records...)
	want := []names.Dep{dep(long, 7, "o"), dep("o", 5, deps...), dep("p", 6, long)}
	tells(t, b, want...)
	tells(t, load(t, b.Records([]string{"p", "o", long})...), want...)
	tells(t, load(t, b.Records([]string{"o"})...), want[1])
}

func TestP7_4_RecordsThatAreTurned(t *testing.T) {
	met := map[api.Errno]int{}
	for seed := range int64(20000) {
		chance := rand.New(rand.NewSource(seed))
		b := names.New()
		for range chance.Intn(4) {
			learns(t, b, anyDep(chance))
		}
		l, _ := b.Plan(anyDep(chance))
		record := l[chance.Intn(len(l))]
		at := chance.Intn(len(record))
		switch chance.Intn(4) {
		case 0:
			record[at] ^= 1 << chance.Intn(8)
		case 1:
			record = slices.Delete(record, at, at+1)
		case 2:
			record = slices.Insert(record, at, byte(chance.Intn(3)))
		}
		was := state(b)
		e := b.Take(record)
		met[e]++
		if e == api.ErrForm && state(b) != was {
			t.Fatalf("%v does not fit, and %s comes to be %s", record, was, state(b))
		}
		// A name that fits is told by the names, and an output's record by what was found.
		if e == api.OK && record[0] == 1 && b.Names()[len(b.Names())-1] != string(record[3:]) {
			t.Fatalf("%v is taken as %q", record, b.Names())
		}
	}
	if len(met) != 2 || met[api.OK] < 4000 || met[api.ErrForm] < 4000 {
		t.Errorf("met %v", met)
	}
}
