package disk_test

import (
	"bytes"
	"fmt"
	"maps"
	"math/rand"
	"path"
	"slices"
	"strings"
	"testing"

	"bellows/api"
	"bellows/disk"
)

// content is a file of the model.
type content struct {
	b          []byte
	sure, time int
}

// model is a disk that keeps each state of its directory since the one that is sure: the last one is the one that is there.
type model struct {
	quota, clock, deeds, left int
	down                      bool
	files                     []content
	states                    []map[string]int
}

// act is one call on a disk.
type act struct {
	kind     string
	name, to string
	b        []byte
	n        int
	keep     disk.Keep
}

func newModel(quota int) *model {
	return &model{quota: quota, clock: 1, left: -1, states: []map[string]int{{}}}
}

func (m *model) last() map[string]int { return m.states[len(m.states)-1] }

func (m *model) used() int {
	n := 0
	for _, i := range m.last() {
		n += len(m.files[i].b)
	}
	return n
}

func (m *model) tick(i int) {
	m.files[i].time = m.clock
	m.clock++
}

// put makes of the last state another one.
func (m *model) put(turn func(map[string]int)) {
	next := maps.Clone(m.last())
	turn(next)
	m.states = append(m.states, next)
}

func rightName(s string) bool {
	const all = "abcdefghijklmnopqrstuvwxyzABCDEFGHIJKLMNOPQRSTUVWXYZ0123456789._-+/"
	return s != "" && len(s) <= 100 && strings.Trim(s, all) == "" && path.Clean("/"+s) == "/"+s && s != "."
}

func (m *model) do(x act) api.Errno {
	switch x.kind {
	case "arm":
		m.left = x.n
		return api.OK
	case "restart":
		m.restart(x.keep)
		return api.OK
	}
	if m.left == 0 {
		m.down = true
	}
	if m.down {
		return api.ErrDown
	}
	m.left--
	m.deeds++
	if x.kind == "syncdir" {
		m.states = m.states[len(m.states)-1:]
		return api.OK
	}
	if !rightName(x.name) || x.kind == "rename" && !rightName(x.to) {
		return api.ErrName
	}
	i, there := m.last()[x.name]
	if x.kind == "write" || x.kind == "append" {
		return m.add(x, i, there)
	}
	if !there {
		return api.ErrMissing
	}
	switch x.kind {
	case "cut":
		if x.n < 0 || x.n > len(m.files[i].b) {
			return api.ErrArg
		}
		m.files[i].b = m.files[i].b[:x.n:x.n]
		m.files[i].sure = min(m.files[i].sure, x.n)
		m.tick(i)
	case "rename":
		m.put(func(s map[string]int) {
			delete(s, x.name)
			s[x.to] = i
		})
	case "remove":
		m.put(func(s map[string]int) { delete(s, x.name) })
	case "sync":
		m.files[i].sure = len(m.files[i].b)
	}
	return api.OK
}

func (m *model) add(x act, i int, there bool) api.Errno {
	whole, files, used := x.b, len(m.last()), m.used()
	if there {
		used -= len(m.files[i].b)
		if x.kind == "append" {
			whole = slices.Concat(m.files[i].b, x.b)
		}
	} else {
		files++
	}
	if len(whole) > 1<<16 || files > 200 {
		return api.ErrLong
	}
	if used+len(whole) > m.quota {
		return api.ErrSpace
	}
	if there && x.kind == "append" {
		m.files[i].b = whole
		m.tick(i)
		return api.OK
	}
	m.files = append(m.files, content{b: bytes.Clone(whole)})
	n := len(m.files) - 1
	m.tick(n)
	m.put(func(s map[string]int) { s[x.name] = n })
	return api.OK
}

func (m *model) restart(k disk.Keep) {
	m.states = []map[string]int{m.states[min(max(k.Dir, 0), len(m.states)-1)]}
	m.down, m.left = false, -1
	for at, name := range slices.Sorted(maps.Keys(m.last())) {
		f := &m.files[m.last()[name]]
		kept := f.sure
		if len(k.Tails) > 0 {
			kept += max(0, k.Tails[at%len(k.Tails)])
		}
		if kept < len(f.b) {
			f.b = f.b[:kept:kept]
			m.tick(m.last()[name])
		}
		f.sure = len(f.b)
	}
}

// state is what the disk must tell.
func (m *model) state() string {
	var s strings.Builder
	if !m.down {
		for _, name := range slices.Sorted(maps.Keys(m.last())) {
			f := m.files[m.last()[name]]
			fmt.Fprintf(&s, "%s %q 0 {%d %d} 0; ", name, f.b, len(f.b), f.time)
		}
	}
	fmt.Fprint(&s, m.used(), m.down)
	return s.String()
}

// does does an act with the disk itself.
func does(d *disk.Disk, x act) api.Errno {
	switch x.kind {
	case "write":
		return d.Write(x.name, x.b)
	case "append":
		return d.Append(x.name, x.b)
	case "cut":
		return d.Cut(x.name, x.n)
	case "rename":
		return d.Rename(x.name, x.to)
	case "remove":
		return d.Remove(x.name)
	case "sync":
		return d.Sync(x.name)
	case "syncdir":
		return d.SyncDir()
	case "arm":
		d.Arm(x.n)
	case "restart":
		d.Restart(x.keep)
	}
	return api.OK
}

// anyAct is an act that hangs on chance alone.
func anyAct(chance *rand.Rand, most int) act {
	names := []string{"a", "b", "c", "d/e", "d/f", "a", "b", "/", "d/../a"}
	if chance.Intn(4) > 0 {
		names = names[:4]
	}
	kinds := []string{"write", "write", "append", "append", "append", "cut", "rename", "rename", "remove", "sync", "sync", "syncdir", "arm", "restart"}
	x := act{kind: kinds[chance.Intn(len(kinds))], name: names[chance.Intn(len(names))], to: names[chance.Intn(len(names))]}
	x.n = chance.Intn(most+2) - 1
	x.b = bytes.Repeat([]byte{byte('A' + chance.Intn(26)), byte('0' + chance.Intn(10))}, most)[:chance.Intn(most+1)]
	x.keep = disk.Keep{Dir: chance.Intn(6) - 1}
	for range chance.Intn(4) {
		x.keep.Tails = append(x.keep.Tails, chance.Intn(most+1)-1)
	}
	return x
}

func TestP4_1_ManyLivesAsTheModelTells(t *testing.T) {
	met := map[api.Errno]int{}
	for seed := range int64(1500) {
		chance := rand.New(rand.NewSource(seed))
		quota := 10 + chance.Intn(40)
		d, m := fresh(t, quota), newModel(quota)
		for i := range 120 {
			x := anyAct(chance, 8)
			want := m.do(x)
			if got := does(d, x); got != want {
				t.Fatalf("life %d, act %d, %+v: error %d, want %d", seed, i, x, got, want)
			}
			if got, want := state(d), m.state(); got != want {
				t.Fatalf("life %d, act %d, %+v: %s, want %s", seed, i, x, got, want)
			}
			if d.Deeds() != m.deeds {
				t.Fatalf("life %d, act %d, %+v: %d deeds, want %d", seed, i, x, d.Deeds(), m.deeds)
			}
			met[want]++
		}
	}
	for _, e := range []api.Errno{api.OK, api.ErrArg, api.ErrName, api.ErrMissing, api.ErrSpace, api.ErrDown} {
		if met[e] < 500 {
			t.Errorf("error %d was met %d times alone", e, met[e])
		}
	}
}

func TestP4_2_OneLifeThroughAllCrashes(t *testing.T) {
	life := []act{
		{kind: "write", name: "a", b: []byte("123")}, {kind: "append", name: "a", b: []byte("45")}, {kind: "sync", name: "a"}, {kind: "append", name: "a", b: []byte("6")},
		{kind: "syncdir"}, {kind: "write", name: "b", b: []byte("xyz")}, {kind: "rename", name: "b", to: "a"}, {kind: "cut", name: "a", n: 2},
		{kind: "append", name: "b", b: []byte("w")}, {kind: "sync", name: "a"}, {kind: "append", name: "a", b: []byte("uv")}, {kind: "remove", name: "b"}, {kind: "syncdir"},
		{kind: "write", name: "c", b: []byte("7")}, {kind: "rename", name: "a", to: "c"}, {kind: "rename", name: "c", to: "c"}, {kind: "write", name: "a", b: nil}, {kind: "remove", name: "c"},
	}
	for crash := range len(life) + 1 {
		for dir := range 6 {
			for tail := range 9 {
				d, m := fresh(t, 20), newModel(20)
				all := append([]act{{kind: "arm", n: crash}}, life...)
				all = append(all, act{kind: "restart", keep: disk.Keep{Dir: dir, Tails: []int{tail % 3, tail / 3}}})
				for i, x := range all {
					want := m.do(x)
					if got := does(d, x); got != want || state(d) != m.state() {
						t.Fatalf("crash at %d, %d changes, tail %d, act %d: error %d, want %d; %s, want %s", crash, dir, tail, i, got, want, state(d), m.state())
					}
				}
			}
		}
	}
}

func TestP4_3_WhatWasSyncedIsThere(t *testing.T) {
	for seed := range int64(2000) {
		chance := rand.New(rand.NewSource(seed))
		d := fresh(t, 1000)
		synced := map[string]string{}
		for range 60 {
			x := anyAct(chance, 8)
			if x.kind == "syncdir" {
				continue
			}
			if x.kind == "sync" && d.Sync(x.name) == api.OK && d.SyncDir() == api.OK {
				b, _ := d.Read(x.name)
				synced[x.name] = string(b)
				continue
			}
			// A change ends what was synced, be it done or lost: one that the disk is down for, too.
			if x.kind != "restart" && x.kind != "arm" {
				delete(synced, x.name)
			}
			if x.kind == "rename" {
				delete(synced, x.to)
			}
			does(d, x)
			if x.kind != "restart" {
				continue
			}
			for name, want := range synced {
				if b, e := d.Read(name); e != api.OK || string(b) != want {
					t.Fatalf("life %d: %s is %q (error %d) behind a restart, and %q was synced", seed, name, b, e, want)
				}
			}
		}
	}
}

// past is what files had under names since the last restart; names of which one was renamed to the other have one past. (A renaming that is lost leads the old name back to a file that may have been turned under its new one.)
type past struct {
	of  map[string]int
	had map[int][]string
}

func newPast() past { return past{map[string]int{}, map[int][]string{}} }

func (p past) number(name string) int {
	if _, ok := p.of[name]; !ok {
		p.of[name] = len(p.of)
	}
	return p.of[name]
}

func (p past) note(name, b string) {
	n := p.number(name)
	p.had[n] = append(p.had[n], b)
}

func (p past) join(name, other string) {
	n, m := p.number(name), p.number(other)
	if n == m {
		return
	}
	p.had[n] = append(p.had[n], p.had[m]...)
	for s, i := range p.of {
		if i == m {
			p.of[s] = n
		}
	}
}

func (p past) hasBeginning(name, b string) bool {
	return slices.ContainsFunc(p.had[p.number(name)], func(whole string) bool { return strings.HasPrefix(whole, b) })
}

func TestP4_3_WhatIsLeftIsABeginning(t *testing.T) {
	for seed := range int64(1500) {
		chance := rand.New(rand.NewSource(seed))
		d := fresh(t, 1000)
		p := newPast()
		for range 80 {
			x := anyAct(chance, 8)
			if e := does(d, x); e == api.OK && x.kind == "rename" {
				p.join(x.name, x.to)
			}
			behind := newPast()
			for _, name := range d.Names() {
				b, _ := d.Read(name)
				if x.kind == "restart" && !p.hasBeginning(name, string(b)) {
					t.Fatalf("life %d: %s is %q behind a restart", seed, name, b)
				}
				p.note(name, string(b))
				behind.note(name, string(b))
			}
			if x.kind == "restart" {
				p = behind
			}
		}
	}
}

func TestP4_3_NoTimeTwice(t *testing.T) {
	for seed := range int64(1500) {
		chance := rand.New(rand.NewSource(seed))
		d := fresh(t, 1000)
		contents := map[int]string{}
		for i := range 100 {
			does(d, anyAct(chance, 8))
			now := map[int]string{}
			for _, name := range d.Names() {
				b, _ := d.Read(name)
				s, _ := d.Stat(name)
				if other, ok := now[s.Time]; ok {
					t.Fatalf("life %d, act %d: %s and %s have one time", seed, i, name, other)
				}
				now[s.Time] = name
				if was, ok := contents[s.Time]; ok && was != string(b) {
					t.Fatalf("life %d, act %d: %q and %q have the time %d", seed, i, was, b, s.Time)
				}
				contents[s.Time] = string(b)
			}
		}
	}
}
