package db_test

import (
	"fmt"
	"math/rand"
	"slices"
	"strings"
	"testing"

	"bellows/api"
	"bellows/db"
	"bellows/disk"
	"bellows/names"
	"bellows/runs"
)

// tale is what one of the logs may tell behind a restart.
type tale[T any] struct {
	fold func([]T) []T
	same func(x, y T) bool
	told []T
	sure int   // so many of the first ones are there behind any restart
	anew [][]T // what compactings that did not come to their end were to make of it
}

func (x *tale[T]) now() []T { return x.fold(x.told) }

func (x *tale[T]) equal(a, b []T) bool { return slices.EqualFunc(a, b, x.same) }

func (x *tale[T]) put(one T) { x.told = append(slices.Clip(x.told), one) }

// become takes what is told for sure from now on.
func (x *tale[T]) become(told []T) { x.told, x.sure, x.anew = told, len(told), nil }

// restart takes what was found behind one, if it may be.
func (x *tale[T]) restart(got []T) bool {
	right := slices.ContainsFunc(x.anew, func(anew []T) bool { return x.equal(anew, got) })
	for n := x.sure; n <= len(x.told) && !right; n++ {
		right = x.equal(x.fold(x.told[:n]), got)
	}
	x.become(got)
	return right
}

// life is a database with what may come of it.
type life struct {
	d     *disk.Disk
	b     *db.DB
	runs  tale[runs.Run]
	deps  tale[names.Dep]
	marks map[int][]string // what was put with each mark
	next  int              // times, each given once
	twice bool             // were there two puttings with one mark?
}

func newLife(t *testing.T, quota int) *life {
	t.Helper()
	x := &life{d: fresh(t, quota), marks: map[int][]string{}}
	x.runs = tale[runs.Run]{fold: runs.Fold, same: runs.Same}
	x.deps = tale[names.Dep]{fold: lastDeps, same: sameDep}
	x.b, _ = db.Open(x.d)
	return x
}

// lastDeps is the last one of each output, in their order.
func lastDeps(l []names.Dep) []names.Dep {
	last := map[string]names.Dep{}
	for _, d := range l {
		last[d.Out] = d
	}
	var folded []names.Dep
	for _, d := range last {
		folded = append(folded, d)
	}
	slices.SortFunc(folded, func(x, y names.Dep) int { return strings.Compare(x.Out, y.Out) })
	return folded
}

// put puts a run of an output with these found ones.
func (x *life) put(out string, deps ...string) api.Errno {
	x.next++
	r := plain(out, x.next)
	for i := range deps {
		r.Found = append(r.Found, x.next+i)
	}
	mark := 0
	if len(deps) > 0 {
		s, _ := x.d.Stat(namesLog)
		mark = s.Time
	}
	e := x.b.Put(r, deps)
	r.Mark = mark
	if len(deps) > 0 {
		// An error may have come behind what the book was told.
		told := slices.ContainsFunc(x.b.Deps(), func(d names.Dep) bool { return d.Out == out && d.Time == mark })
		if told || e == api.OK {
			_, met := x.marks[mark]
			x.twice = x.twice || met
			x.marks[mark] = deps
			x.deps.put(dep(out, mark, deps...))
		}
	}
	if e == api.OK {
		x.runs.put(r)
	}
	return e
}

func (x *life) sync() api.Errno {
	e := x.b.Sync()
	if e == api.OK {
		x.runs.sure, x.deps.sure = len(x.runs.told), len(x.deps.told)
	}
	return e
}

func (x *life) compact(live ...string) api.Errno {
	e := x.b.Compact(live)
	keptRuns := slices.DeleteFunc(x.runs.now(), func(r runs.Run) bool { return !slices.Contains(live, r.Out) })
	keptDeps := slices.DeleteFunc(x.deps.now(), func(d names.Dep) bool { return !slices.Contains(live, d.Out) })
	switch {
	case e == api.OK:
		x.runs.become(keptRuns)
		x.deps.become(keptDeps)
	case e == api.ErrDown:
		x.runs.anew = append(x.runs.anew, keptRuns)
		x.deps.anew = append(x.deps.anew, keptDeps)
	case !x.deps.equal(x.b.Deps(), x.deps.now()):
		x.deps.become(keptDeps)
	}
	return e
}

// reopen opens the database of a disk that is up anew.
func (x *life) reopen(t *testing.T) {
	t.Helper()
	x.d.Arm(-1)
	x.b = open(t, x.d)
	x.check(t)
}

// restart restarts the disk, goes down in each opening that is told, and checks what is known then.
func (x *life) restart(t *testing.T, k disk.Keep, downs ...int) {
	t.Helper()
	for _, n := range downs {
		x.d.Restart(k)
		x.d.Arm(n)
		if _, e := db.Open(x.d); e != api.OK && e != api.ErrDown {
			t.Fatalf("Open: %d", e)
		}
	}
	x.d.Restart(k)
	x.b = open(t, x.d)
	gotRuns, gotDeps := x.b.Runs(), x.b.Deps()
	wasRuns, wasDeps := x.runs, x.deps
	if !x.runs.restart(gotRuns) {
		t.Fatalf("runs: %v, of %v", gotRuns, wasRuns)
	}
	if !x.deps.restart(gotDeps) {
		t.Fatalf("deps: %v, of %v", gotDeps, wasDeps)
	}
	x.check(t)
}

// check checks all that is known, and each entry.
func (x *life) check(t *testing.T) {
	t.Helper()
	knowsRuns(t, x.b, x.runs.now()...)
	knowsDeps(t, x.b, x.deps.now()...)
	for _, r := range x.runs.now() {
		found := slices.ContainsFunc(x.deps.now(), func(d names.Dep) bool { return d.Out == r.Out && d.Time == r.Mark })
		switch {
		case len(r.Found) == 0:
			hasEntry(t, x.b, r)
		case found:
			hasEntry(t, x.b, r, x.marks[r.Mark]...)
		default:
			hasNone(t, x.b, r.Out)
		}
	}
	if x.twice {
		t.Error("two puttings had one mark")
	}
}

// whole is a life with all that may be done; it goes on when the disk is down, and nothing comes of that.
func (x *life) whole() {
	x.put("o", "h", "i")
	x.put("p")
	x.sync()
	x.put("o", "i")
	x.put("q", "o", "j")
	x.compact("o", "p")
	x.put("q", "h")
	if b, e := db.Open(x.d); e == api.OK {
		x.b = b
	}
	x.put("p", "h", "k")
	x.put("o")
	x.sync()
	x.compact("o", "p", "q")
	x.put("o", "l")
}

func TestP8_4_OneLifeThroughAllCrashes(t *testing.T) {
	x := newLife(t, 10000)
	x.whole()
	x.check(t)
	lived := x.d.Deeds() - 2
	for crash := range lived + 1 {
		for dir := range 5 {
			for _, tails := range [][]int{nil, {0, 1000}, {1000, 0}, {1000}, {30, 1000}, {1000, 40}, {1000, 70}, {5, 20}} {
				x := newLife(t, 10000)
				x.d.Arm(crash)
				x.whole()
				if crash == lived == x.d.Down() {
					t.Fatalf("down behind %d deeds: %t", crash, x.d.Down())
				}
				x.restart(t, disk.Keep{Dir: dir, Tails: tails})
				must(t, x.put("o", "m", "h"), x.put("q"), x.sync())
				x.check(t)
				x.restart(t, disk.Keep{})
				if t.Failed() {
					t.Fatalf("crash at %d, %d changes, tails %v", crash, dir, tails)
				}
			}
		}
	}
}

func TestP8_4_ManyLives(t *testing.T) {
	met := map[string]int{}
	outs := []string{"a", "b", "c", "d"}
	some := func(chance *rand.Rand, from []string, most int) []string {
		var l []string
		for range chance.Intn(most + 1) {
			l = append(l, from[chance.Intn(len(from))])
		}
		return l
	}
	for seed := range int64(1500) {
		chance := rand.New(rand.NewSource(seed))
		x := newLife(t, 400+chance.Intn(1500))
		for act := range 60 {
			switch chance.Intn(14) {
			default:
				e := x.put(outs[chance.Intn(4)], some(chance, []string{"a", "h", "i", "j", "k", "l"}, 3)...)
				met[fmt.Sprint("put ", e)]++
			case 0, 1:
				met[fmt.Sprint("sync ", x.sync())]++
			case 2:
				met[fmt.Sprint("compact ", x.compact(some(chance, outs, 5)...))]++
			case 3:
				met[fmt.Sprint("compact all ", x.compact(x.b.Outs()...))]++
			case 4:
				x.d.Arm(chance.Intn(12))
			case 5:
				if !x.d.Down() {
					x.reopen(t)
				}
			case 6:
				k := disk.Keep{Dir: chance.Intn(5)}
				for range chance.Intn(3) {
					k.Tails = append(k.Tails, chance.Intn(200))
				}
				x.restart(t, k, []int{0, 1, 2}[:chance.Intn(4)%3]...)
				met["restart"]++
			}
			if !x.d.Down() {
				x.check(t)
			}
			if t.Failed() {
				t.Fatalf("life %d, act %d", seed, act)
			}
		}
	}
	for _, what := range []string{"put", "sync", "compact", "compact all"} {
		for _, e := range []api.Errno{api.OK, api.ErrDown, api.ErrSpace} {
			if key := fmt.Sprint(what, " ", e); met[key] < 300 && key != fmt.Sprint("sync ", api.ErrSpace) {
				t.Errorf("%s was met %d times alone", key, met[key])
			}
		}
	}
	if met["restart"] < 1000 {
		t.Errorf("met %v", met)
	}
}

func TestP8_4_CompactingAllTurnsNothing(t *testing.T) {
	for seed := range int64(300) {
		chance := rand.New(rand.NewSource(seed))
		x := newLife(t, 100000)
		for range chance.Intn(20) {
			must(t, x.put(fmt.Sprint("o", chance.Intn(5)), []string{"h", "i", "o1", "j"}[:chance.Intn(5)]...))
		}
		// Of one output the book alone tells: the disk goes down ahead of its run's record.
		must(t, x.sync())
		x.d.Arm(2)
		x.put("lost", "lost")
		x.restart(t, disk.Keep{Tails: []int{1000}})
		if len(x.b.Deps()) == 0 || slices.Contains(x.b.Outs(), "lost") {
			t.Fatalf("%v, %q", x.b.Deps(), x.b.Outs())
		}
		was := map[string]db.Entry{}
		for _, out := range x.b.Outs() {
			was[out], _ = x.b.Look(out)
		}
		known := x.b.Runs()
		told := slices.DeleteFunc(x.b.Deps(), func(d names.Dep) bool { return !slices.Contains(x.b.Outs(), d.Out) })
		must(t, x.b.Compact(x.b.Outs()))
		for _, b := range []*db.DB{x.b, open(t, x.d)} {
			knowsRuns(t, b, known...)
			knowsDeps(t, b, told...)
			for _, r := range known {
				hasEntry(t, b, r, was[r.Out].Deps...)
			}
		}
		if t.Failed() {
			t.Fatalf("life %d", seed)
		}
	}
}

// What is put of one output in the middle of its log's being lost is never told with another one's names.
func TestP8_4_OneLogLostWithoutTheOther(t *testing.T) {
	for _, x := range []struct {
		tails []int
		entry string
	}{
		{[]int{0, 0}, "h"},       // both lost: as it was
		{[]int{0, 1000}, "none"}, // the run is lost, what was found is told of another mark
		{[]int{1000, 0}, "none"}, // the other way round
		{[]int{1000, 1000}, "i"}, // none lost
	} {
		d := fresh(t, 10000)
		b := open(t, d)
		must(t, b.Put(finding("o", 0, 3), []string{"h"}), b.Sync(), b.Put(finding("o", 0, 3), []string{"i"}))
		d.Restart(disk.Keep{Tails: x.tails})
		b = open(t, d)
		got := "none"
		if y, ok := b.Look("o"); ok {
			got = strings.Join(y.Deps, " ")
		}
		if got != x.entry {
			t.Errorf("tails %v: %s, want %s", x.tails, got, x.entry)
		}
		must(t, b.Put(finding("o", 0, 4), []string{"j"}))
		if y, ok := b.Look("o"); !ok || !slices.Equal(y.Deps, []string{"j"}) {
			t.Errorf("tails %v: %v, %t", x.tails, y, ok)
		}
	}
}
