package names_test

import (
	"bytes"
	"encoding/binary"
	"fmt"
	"math"
	"reflect"
	"slices"
	"strings"
	"testing"

	"bellows/api"
	"bellows/names"
)

// ofName is a name's record, by other means than the program's.
func ofName(name string) []byte {
	return append(binary.LittleEndian.AppendUint16([]byte{1}, uint16(len(name))), name...)
}

// ofOutput is an output's record, with as many numbers as there are.
func ofOutput(out, time int, numbers ...int) []byte { return told(out, time, len(numbers), numbers...) }

// told is an output's record that tells a count of numbers.
func told(out, time, count int, numbers ...int) []byte {
	b := binary.LittleEndian.AppendUint32([]byte{2}, uint32(out))
	b = binary.LittleEndian.AppendUint64(b, uint64(time))
	b = binary.LittleEndian.AppendUint32(b, uint32(count))
	for _, n := range numbers {
		b = binary.LittleEndian.AppendUint32(b, uint32(n))
	}
	return b
}

// dep is what was found of an output.
func dep(out string, time int, deps ...string) names.Dep {
	return names.Dep{Out: out, Time: time, Deps: deps}
}

func same(x, y names.Dep) bool {
	return x.Out == y.Out && x.Time == y.Time && slices.Equal(x.Deps, y.Deps)
}

// load is the book of records that must fit.
func load(t *testing.T, records ...[]byte) *names.Book {
	t.Helper()
	b, e := names.Load(records)
	if e != api.OK || b == nil {
		t.Fatalf("Load of %d records: %v, %d", len(records), b, e)
	}
	return b
}

// takes checks that a record fits.
func takes(t *testing.T, b *names.Book, record []byte) {
	t.Helper()
	if e := b.Take(record); e != api.OK {
		t.Fatalf("Take(%.100v): %d", record, e)
	}
}

// plans checks which records tell d, and that the book stays.
func plans(t *testing.T, b *names.Book, d names.Dep, want ...[]byte) {
	t.Helper()
	was := state(b)
	l, e := b.Plan(d)
	if e != api.OK || !slices.EqualFunc(l, want, bytes.Equal) {
		t.Errorf("Plan(%.200v): %.200v, %d, want %.200v", d, l, e, want)
	}
	if now := state(b); now != was {
		t.Errorf("planning turns the book: %.200s, was %.200s", now, was)
	}
}

// learns lets a book take what it plans.
func learns(t *testing.T, b *names.Book, d names.Dep) {
	t.Helper()
	l, e := b.Plan(d)
	if e != api.OK {
		t.Fatalf("Plan(%.200v): %d", d, e)
	}
	for _, record := range l {
		takes(t, b, record)
	}
}

// tells checks all that a book tells of outputs: those alone, in this order.
func tells(t *testing.T, b *names.Book, want ...names.Dep) {
	t.Helper()
	if got := b.All(); !slices.EqualFunc(got, want, same) {
		t.Errorf("All: %.300v, want %.300v", got, want)
	}
	for _, d := range want {
		if got, ok := b.Look(d.Out); !ok || !same(got, d) {
			t.Errorf("Look(%q): %.300v, %t, want %.300v", d.Out, got, ok, d)
		}
	}
	for _, name := range append(b.Names(), "", "nobody") {
		if slices.ContainsFunc(want, func(d names.Dep) bool { return d.Out == name }) {
			continue
		}
		if got, ok := b.Look(name); ok || !reflect.DeepEqual(got, names.Dep{}) {
			t.Errorf("Look(%q): %v, %t", name, got, ok)
		}
	}
}

// hasNames checks a book's names.
func hasNames(t *testing.T, b *names.Book, want ...string) {
	t.Helper()
	if got := b.Names(); !slices.Equal(got, want) {
		t.Errorf("names are %.200q, want %.200q", got, want)
	}
}

// haveRoomOfTheirOwn spoils records, and checks that none is spoiled by another one.
func haveRoomOfTheirOwn(t *testing.T, records [][]byte) {
	t.Helper()
	const more = "!!!!!!!!"
	for i, record := range records {
		clear(record)
		records[i] = append(record, more...)
	}
	for i, record := range records {
		if string(record) != strings.Repeat("\x00", len(record)-len(more))+more {
			t.Errorf("record %d shares bytes, or room, with another one: %q", i, record)
		}
	}
}

// state is all that a book tells.
func state(b *names.Book) string { return fmt.Sprintf("%q %#v", b.Names(), b.All()) }

func TestP7_1_New(t *testing.T) {
	b := names.New()
	if b == nil {
		t.Fatal("no book")
	}
	tells(t, b)
	hasNames(t, b)
	takes(t, b, ofName("a"))
	hasNames(t, names.New())
}

func TestP7_1_TakeNames(t *testing.T) {
	b := names.New()
	long := strings.Repeat("n", 65535)
	all := []string{"b", "a", "", "\x00\xff", "a/../b", long, "B"}
	for i, name := range all {
		takes(t, b, ofName(name))
		hasNames(t, b, all[:i+1]...)
	}
	for _, name := range all {
		if e := b.Take(ofName(name)); e != api.ErrForm {
			t.Errorf("%.20q once more: %d", name, e)
		}
	}
	hasNames(t, b, all...)
	tells(t, b)
}

func TestP7_1_TakeOutputs(t *testing.T) {
	b := load(t, ofName("o"), ofName("a"), ofName("p"))
	takes(t, b, ofOutput(0, 5, 1))
	tells(t, b, dep("o", 5, "a"))
	takes(t, b, ofOutput(2, 1<<62-1, 2, 0, 1, 1))
	tells(t, b, dep("o", 5, "a"), dep("p", 1<<62-1, "p", "o", "a", "a"))
	// In the place of what was found ahead, be it later or not.
	takes(t, b, ofOutput(0, 4, 2, 1))
	tells(t, b, dep("o", 4, "p", "a"), dep("p", 1<<62-1, "p", "o", "a", "a"))
	// That nothing was found is something, too.
	takes(t, b, ofOutput(2, 0))
	takes(t, b, ofOutput(1, 7))
	tells(t, b, dep("a", 7), dep("o", 4, "p", "a"), dep("p", 0))
	hasNames(t, b, "o", "a", "p")
}

func TestP7_1_TakeFitsNot(t *testing.T) {
	all := [][]byte{ofName("o"), ofName("a"), ofOutput(0, 5, 1, 1)}
	for name, record := range map[string][]byte{
		"nil":                      nil,
		"nothing":                  {},
		"a kind alone":             {1},
		"the other one alone":      {2},
		"no kind":                  append([]byte{0}, ofName("b")[1:]...),
		"a third kind":             append([]byte{3}, ofName("b")[1:]...),
		"a kind of many":           append([]byte{255}, ofOutput(0, 1)[1:]...),
		"a name of the other kind": append([]byte{2}, ofName("b")[1:]...),
		"an output of the other":   append([]byte{1}, ofOutput(0, 1)[1:]...),
		"a name that it has":       ofName("a"),
		"half a length":            {1, 1},
		"a length alone":           {1, 1, 0},
		"too short a name":         {1, 2, 0, 'b'},
		"more than a name":         append(ofName("b"), 0),
		"another name behind":      append(ofName("b"), ofName("c")...),
		"a name behind, no kind":   append(ofName(""), ofName("")[1:]...),
		"an output that is not":    ofOutput(2, 5, 1),
		"far from an output":       ofOutput(1<<32-1, 5, 1),
		"a number that is not":     ofOutput(0, 5, 2),
		"the last one is not":      ofOutput(0, 5, 0, 1, 2),
		"the first one is not":     ofOutput(0, 5, 1<<31, 1, 0),
		"late":                     ofOutput(0, 1<<62, 1),
		"later":                    ofOutput(0, math.MaxInt, 1),
		"latest":                   ofOutput(0, -1, 1),
		"as late as below":         ofOutput(0, math.MinInt, 1),
		"one number missing":       told(0, 5, 3, 1, 1),
		"one number more":          told(0, 5, 1, 1, 1),
		"a number, none told":      told(0, 5, 0, 1),
		"far too many told":        told(0, 5, 1<<32-1, 1),
		"as many as go round":      told(0, 5, 1<<30+1, 1),
		"more than an output":      append(ofOutput(0, 5, 1), 0),
		"a byte missing":           ofOutput(0, 5, 1)[:20],
	} {
		b := load(t, all...)
		was := state(b)
		if e := b.Take(record); e != api.ErrForm {
			t.Errorf("%s: %d", name, e)
		}
		if now := state(b); now != was {
			t.Errorf("%s: it is turned: %s, was %s", name, now, was)
		}
		if b, e := names.Load(append(slices.Clip(all), record)); e != api.ErrForm || b != nil {
			t.Errorf("Load, %s: %v, %d", name, b, e)
		}
		if b, e := names.Load([][]byte{all[0], record, all[1]}); e != api.ErrForm || b != nil {
			t.Errorf("Load, %s in the middle: %v, %d", name, b, e)
		}
	}
}

func TestP7_1_TakeWhatIsCut(t *testing.T) {
	for _, record := range [][]byte{ofName("bcd"), ofOutput(1, 300, 0, 1, 0)} {
		b := load(t, ofName("o"), ofName("a"))
		was := state(b)
		for n := range record {
			if e := b.Take(record[:n]); e != api.ErrForm || state(b) != was {
				t.Errorf("%d bytes of %v: %d, %s", n, record, e, state(b))
			}
		}
		takes(t, b, record)
	}
}

func TestP7_1_TakeIntoNoNames(t *testing.T) {
	for _, record := range [][]byte{ofOutput(0, 0), ofOutput(0, 1, 0), {2}} {
		b := names.New()
		if e := b.Take(record); e != api.ErrForm || len(b.All()) != 0 {
			t.Errorf("%v: %d, %v", record, e, b.All())
		}
	}
}

func TestP7_1_Load(t *testing.T) {
	tells(t, load(t))
	hasNames(t, load(t, [][]byte{}...))
	records := [][]byte{ofName("a"), ofOutput(0, 1), ofName("b"), ofOutput(1, 2, 1, 0), ofOutput(0, 3, 1)}
	b := load(t, records...)
	tells(t, b, dep("a", 3, "b"), dep("b", 2, "b", "a"))
	hasNames(t, b, "a", "b")
	// Each one must fit the book of those ahead of it, not that of all.
	if b, e := names.Load([][]byte{records[0], records[4], records[2]}); e != api.ErrForm || b != nil {
		t.Errorf("a name that comes later: %v, %d", b, e)
	}
}

func TestP7_1_KeepsNothingOfWhatIsHandedIn(t *testing.T) {
	records := [][]byte{ofName("oo"), ofName("aa"), ofOutput(0, 5, 1)}
	room := append(slices.Clone(ofOutput(1, 5, 0)), "room"...)
	b := load(t, records...)
	takes(t, b, room[:len(room)-4])
	if !bytes.Equal(room, append(ofOutput(1, 5, 0), "room"...)) {
		t.Errorf("a record is turned: %v", room)
	}
	clear(room)
	for _, record := range records {
		clear(record)
	}
	tells(t, b, dep("aa", 5, "oo"), dep("oo", 5, "aa"))
}

func TestP7_2_Plan(t *testing.T) {
	b := names.New()
	plans(t, b, dep("o", 5, "a"), ofName("o"), ofName("a"), ofOutput(0, 5, 1))
	plans(t, b, dep("o", 5), ofName("o"), ofOutput(0, 5))
	plans(t, b, dep("", 0), ofName(""), ofOutput(0, 0))
	// Each name once, the output first, be it found or not.
	plans(t, b, dep("o", 1<<62-1, "b", "o", "a", "b", "a", "c"),
		ofName("o"), ofName("b"), ofName("a"), ofName("c"), ofOutput(0, 1<<62-1, 1, 0, 2, 1, 2, 3))
	learns(t, b, dep("o", 5, "a"))
	plans(t, b, dep("o", 6, "a"), ofOutput(0, 6, 1))
	plans(t, b, dep("a", 6, "c", "a", "b", "o"), ofName("c"), ofName("b"), ofOutput(1, 6, 2, 1, 3, 0))
	plans(t, b, dep("p", 6, "a"), ofName("p"), ofOutput(2, 6, 1))
	// What it tells already is told once more.
	plans(t, b, dep("o", 5, "a"), ofOutput(0, 5, 1))
}

func TestP7_2_PlanErrors(t *testing.T) {
	long, longer := strings.Repeat("n", 4000), strings.Repeat("n", 4001)
	some, many := slices.Repeat([]string{"a"}, 1000), slices.Repeat([]string{"a"}, 1001)
	for name, c := range map[string]struct {
		d    names.Dep
		want api.Errno
	}{
		"below 0":            {dep("o", -1, "a"), api.ErrArg},
		"far below":          {dep("o", math.MinInt, "a"), api.ErrArg},
		"2^62":               {dep("o", 1<<62, "a"), api.ErrArg},
		"far above":          {dep("o", math.MaxInt, "a"), api.ErrArg},
		"late, and too long": {dep(longer, 1<<62, many...), api.ErrArg},
		"below, and too":     {dep(longer, -1, many...), api.ErrArg},
		"a long output":      {dep(longer, 5, "a"), api.ErrLong},
		"a long name":        {dep("o", 5, "a", longer, "b"), api.ErrLong},
		"the last is long":   {dep("o", 5, "a", strings.Repeat("n", 1<<17)), api.ErrLong},
		"many names":         {dep("o", 5, many...), api.ErrLong},
		"very many names":    {dep("o", 5, slices.Repeat(many, 100)...), api.ErrLong},
	} {
		for _, b := range []*names.Book{names.New(), load(t, ofName("o"), ofName("a"), ofName(longer), ofOutput(0, 1, 2))} {
			was := state(b)
			if l, e := b.Plan(c.d); e != c.want || l != nil || state(b) != was {
				t.Errorf("%s: %d records, %d, want %d", name, len(l), e, c.want)
			}
		}
	}
	b := names.New()
	numbers := make([]int, 1000)
	plans(t, b, dep(long, 5, long), ofName(long), ofOutput(0, 5, 0))
	plans(t, b, dep("a", 5, some...), ofName("a"), ofOutput(0, 5, numbers...))
	for i := range some {
		some[i], numbers[i] = fmt.Sprint(i), i+1
	}
	want := [][]byte{ofName("o")}
	for _, name := range some {
		want = append(want, ofName(name))
	}
	plans(t, b, dep("o", 5, some...), append(want, ofOutput(0, 5, numbers...))...)
}

func TestP7_2_PlannedRecordsFitALog(t *testing.T) {
	deps := make([]string, 1000)
	for i := range deps {
		deps[i] = fmt.Sprintf("%d-%s", i, strings.Repeat("n", 3990))
	}
	l, e := names.New().Plan(dep(strings.Repeat("o", 4000), 5, deps...))
	if e != api.OK || len(l) != 1002 {
		t.Fatalf("%d records, %d", len(l), e)
	}
	for _, record := range l {
		if len(record) > api.MaxRecord {
			t.Errorf("a record of %d bytes", len(record))
		}
	}
}

func TestP7_2_PlanSharesNothing(t *testing.T) {
	deps := []string{"a", "b", "room"}
	b := load(t, ofName("x"))
	first, _ := b.Plan(dep("o", 5, deps[:2]...))
	second, _ := b.Plan(dep("o", 5, deps[:2]...))
	haveRoomOfTheirOwn(t, first)
	if !slices.EqualFunc(second, [][]byte{ofName("o"), ofName("a"), ofName("b"), ofOutput(1, 5, 2, 3)}, bytes.Equal) {
		t.Errorf("two answers share bytes: %v", second)
	}
	if !slices.Equal(deps, []string{"a", "b", "room"}) {
		t.Errorf("what is handed in is turned: %q", deps)
	}
}

func TestP7_2_All(t *testing.T) {
	b := names.New()
	for i, out := range []string{"b", "a/b", "", "B", "a", "ab", "\xff", "a-"} {
		learns(t, b, dep(out, i, "zz", out))
	}
	// In the order of outputs, not of numbers or times.
	tells(t, b, dep("", 2, "zz", ""), dep("B", 3, "zz", "B"), dep("a", 4, "zz", "a"), dep("a-", 7, "zz", "a-"), dep("a/b", 1, "zz", "a/b"), dep("ab", 5, "zz", "ab"), dep("b", 0, "zz", "b"), dep("\xff", 6, "zz", "\xff"))
	hasNames(t, b, "b", "zz", "a/b", "", "B", "a", "ab", "\xff", "a-")
}

func TestP7_2_WhatIsToldIsNew(t *testing.T) {
	b := load(t, ofName("o"), ofName("a"), ofOutput(0, 5, 1, 1), ofOutput(1, 6, 0, 0))
	was := state(b)
	d, _ := b.Look("o")
	all, known := b.All(), b.Names()
	d.Deps[0], all[0].Deps[0], known[0] = "x", "y", "z"
	all[0].Deps, known = append(all[0].Deps, "x", "x"), append(known, "x")
	if d.Deps[1] != "a" || all[0].Deps[1] != "o" || !same(all[1], dep("o", 5, "a", "a")) {
		t.Errorf("two answers share a list: %v, %v", d, all)
	}
	takes(t, b, ofName("b"))
	takes(t, b, ofOutput(0, 7, 2))
	takes(t, b, ofOutput(0, 5, 1, 1))
	if known[2] != "x" || state(b) == was {
		t.Errorf("the book turns what it told: %v", known)
	}
	tells(t, b, dep("a", 6, "o", "o"), dep("o", 5, "a", "a"))
	hasNames(t, b, "o", "a", "b")
}

func TestP7_3_Records(t *testing.T) {
	b := names.New()
	for _, d := range []names.Dep{dep("p", 1, "x", "a"), dep("o", 2, "a"), dep("q", 3, "y"), dep("o", 4, "q", "a", "q"), dep("r", 5)} {
		learns(t, b, d)
	}
	was := state(b)
	for _, c := range []struct {
		live []string
		want [][]byte
	}{
		{nil, nil},
		{[]string{}, nil},
		// Known as a name, or not at all, but nothing was found of it.
		{[]string{"x", "a", "nobody", ""}, nil},
		{[]string{"r"}, [][]byte{ofName("r"), ofOutput(0, 5)}},
		{[]string{"o"}, [][]byte{ofName("o"), ofName("q"), ofName("a"), ofOutput(0, 4, 1, 2, 1)}},
		{[]string{"p", "x", "o", "p"}, [][]byte{
			ofName("o"), ofName("q"), ofName("a"), ofOutput(0, 4, 1, 2, 1),
			ofName("p"), ofName("x"), ofOutput(3, 1, 4, 2)}},
		{[]string{"r", "q", "p", "o", "o"}, [][]byte{
			ofName("o"), ofName("q"), ofName("a"), ofOutput(0, 4, 1, 2, 1),
			ofName("p"), ofName("x"), ofOutput(3, 1, 4, 2),
			ofName("y"), ofOutput(1, 3, 5),
			ofName("r"), ofOutput(6, 5)}},
	} {
		live := slices.Clone(c.live)
		if got := b.Records(live); !slices.EqualFunc(got, c.want, bytes.Equal) || !slices.Equal(live, c.live) {
			t.Errorf("%q: %v, want %v", c.live, got, c.want)
		}
		if now := state(b); now != was {
			t.Errorf("%q: it is turned: %s, was %s", c.live, now, was)
		}
	}
	if got := names.New().Records([]string{"a"}); len(got) != 0 {
		t.Errorf("of an empty book: %v", got)
	}
}

func TestP7_3_RecordsShareNothing(t *testing.T) {
	b := load(t, ofName("o"), ofName("a"), ofOutput(0, 5, 1), ofOutput(1, 6))
	first, second := b.Records([]string{"o", "a"}), b.Records([]string{"o", "a"})
	haveRoomOfTheirOwn(t, first)
	want := [][]byte{ofName("a"), ofOutput(0, 6), ofName("o"), ofOutput(1, 5, 0)}
	if !slices.EqualFunc(second, want, bytes.Equal) || !slices.EqualFunc(b.Records([]string{"o", "a"}), want, bytes.Equal) {
		t.Errorf("two answers share bytes: %v", second)
	}
}

func TestP7_3_OfNil(t *testing.T) {
	var b *names.Book
	for _, record := range [][]byte{nil, {0}, ofName("a"), ofOutput(0, 1)} {
		if e := b.Take(record); e != api.ErrState {
			t.Errorf("Take(%v): %d", record, e)
		}
	}
	for _, d := range []names.Dep{{}, dep("o", 5, "a"), dep("o", -1), dep(strings.Repeat("o", 4001), 0)} {
		if l, e := b.Plan(d); e != api.ErrState || l != nil {
			t.Errorf("Plan(%.50v): %v, %d", d, l, e)
		}
	}
	if d, ok := b.Look("a"); ok || !reflect.DeepEqual(d, names.Dep{}) {
		t.Errorf("Look: %v, %t", d, ok)
	}
	if all, known, records := b.All(), b.Names(), b.Records([]string{"a"}); len(all) != 0 || len(known) != 0 || len(records) != 0 {
		t.Errorf("%v, %v, %v", all, known, records)
	}
}

func TestP7_1_ABookThatNewDidNotMake(t *testing.T) {
	b := &names.Book{}
	tells(t, b)
	plans(t, b, dep("o", 5, "a"), ofName("o"), ofName("a"), ofOutput(0, 5, 1))
	learns(t, b, dep("o", 5, "a"))
	tells(t, b, dep("o", 5, "a"))
}
