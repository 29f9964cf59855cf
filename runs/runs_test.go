package runs_test

import (
	"bytes"
	"encoding/binary"
	"hash/fnv"
	"math"
	"reflect"
	"slices"
	"strings"
	"testing"

	"bellows/api"
	"bellows/runs"
)

// hashed is a command's hash, by other means than the program's.
func hashed(command string) uint64 {
	h := fnv.New64a()
	h.Write([]byte(command))
	return h.Sum64()
}

// number puts a number of 8 bytes behind b.
func number(b []byte, n int) []byte { return binary.LittleEndian.AppendUint64(b, uint64(n)) }

// count puts a number of 4 bytes behind b.
func count(b []byte, n int) []byte { return binary.LittleEndian.AppendUint32(b, uint32(n)) }

// text puts a text behind b.
func text(b []byte, s string) []byte {
	return append(binary.LittleEndian.AppendUint16(b, uint16(len(s))), s...)
}

// record is a run's, by other means than the program's; it has no bound.
func record(r runs.Run) []byte {
	b := binary.LittleEndian.AppendUint64(nil, hashed(r.Command))
	b = number(number(text(text(b, r.Out), r.Command), r.Time), r.Mark)
	b = count(b, len(r.Ins))
	for _, in := range r.Ins {
		b = number(text(b, in.Name), in.Time)
	}
	b = count(b, len(r.Found))
	for _, time := range r.Found {
		b = number(b, time)
	}
	return b
}

// rich is a run with some of each.
func rich() runs.Run {
	return runs.Run{Out: "d/out", Command: "cat a b > d/out", Time: 300, Mark: 7, Ins: []runs.In{{"a", 1}, {"b", 1 << 40}}, Found: []int{70000, 0, 5}}
}

// timeTurns set each of the times that the rich run has.
func timeTurns() map[string]func(*runs.Run, int) {
	return map[string]func(*runs.Run, int){
		"time":       func(r *runs.Run, n int) { r.Time = n },
		"mark":       func(r *runs.Run, n int) { r.Mark = n },
		"first in":   func(r *runs.Run, n int) { r.Ins[0].Time = n },
		"last in":    func(r *runs.Run, n int) { r.Ins[1].Time = n },
		"first find": func(r *runs.Run, n int) { r.Found[0] = n },
		"last find":  func(r *runs.Run, n int) { r.Found[2] = n },
	}
}

// writes checks that a run is written.
func writes(t *testing.T, r runs.Run) []byte {
	t.Helper()
	b, e := runs.Write(r)
	if e != api.OK || !bytes.Equal(b, record(r)) {
		t.Fatalf("Write(%.300v): %v, %d", r, b, e)
	}
	return b
}

// reads checks that bytes are read as a run.
func reads(t *testing.T, b []byte, want runs.Run) {
	t.Helper()
	r, e := runs.Read(b)
	if e != api.OK || !runs.Same(r, want) || r.Out != want.Out || r.Command != want.Command || r.Time != want.Time || r.Mark != want.Mark || !slices.Equal(r.Ins, want.Ins) || !slices.Equal(r.Found, want.Found) {
		t.Errorf("Read: %.300v, %d, want %.300v", r, e, want)
	}
}

// isNone checks that bytes are no record.
func isNone(t *testing.T, what string, b []byte) {
	t.Helper()
	if r, e := runs.Read(b); e != api.ErrForm || !reflect.DeepEqual(r, runs.Run{}) {
		t.Errorf("%s: %.300v, %d", what, r, e)
	}
}

func TestP6_1_WriteKnownBytes(t *testing.T) {
	for _, c := range []struct {
		r    runs.Run
		want string
	}{
		{runs.Run{}, "\x25\x23\x22\x84\xe4\x9c\xf2\xcb" + strings.Repeat("\x00", 28)},
		{
			runs.Run{Out: "o", Command: "c", Time: 5},
			"\xf2\xef\x01\x86\x4c\xde\x63\xaf" + "\x01\x00o" + "\x01\x00c" + "\x05" + strings.Repeat("\x00", 15) + strings.Repeat("\x00", 8),
		},
		{
			runs.Run{Out: "out", Command: "a", Time: 0x0102030405060708, Mark: 256, Ins: []runs.In{{"", 1}, {"xy", 2}}, Found: []int{3, math.MaxInt}},
			"\x8c\xec\x01\x86\x4c\xdc\x63\xaf" + "\x03\x00out" + "\x01\x00a" + "\x08\x07\x06\x05\x04\x03\x02\x01" + "\x00\x01\x00\x00\x00\x00\x00\x00" +
				"\x02\x00\x00\x00" + "\x00\x00" + "\x01\x00\x00\x00\x00\x00\x00\x00" + "\x02\x00xy" + "\x02\x00\x00\x00\x00\x00\x00\x00" +
				"\x02\x00\x00\x00" + "\x03\x00\x00\x00\x00\x00\x00\x00" + "\xff\xff\xff\xff\xff\xff\xff\x7f",
		},
	} {
		if got, e := runs.Write(c.r); e != api.OK || string(got) != c.want {
			t.Errorf("%v: %q, %d, want %q", c.r, got, e, c.want)
		}
	}
	writes(t, rich())
	// Neither an output nor an input needs to be a path here.
	writes(t, runs.Run{Out: "/../ \x00", Command: "\xff\n", Ins: []runs.In{{"a b", 0}, {"a b", 0}}})
}

func TestP6_1_WriteTimesBelow0(t *testing.T) {
	long := strings.Repeat("x", 1<<16)
	for name, turn := range timeTurns() {
		for _, n := range []int{-1, -2, math.MinInt} {
			r := rich()
			turn(&r, n)
			if b, e := runs.Write(r); e != api.ErrArg || b != nil {
				t.Errorf("%s %d: %v, %d", name, n, b, e)
			}
			r.Out = long
			if b, e := runs.Write(r); e != api.ErrArg || b != nil {
				t.Errorf("%s %d, and too long: %d bytes, %d", name, n, len(b), e)
			}
		}
		for _, n := range []int{0, 1 << 62, math.MaxInt} {
			r := rich()
			turn(&r, n)
			writes(t, r)
		}
	}
}

func TestP6_1_WriteLong(t *testing.T) {
	room := 4096 - len(record(rich()))
	for name, longer := range map[string]func(*runs.Run, int){
		"output":  func(r *runs.Run, n int) { r.Out += strings.Repeat("o", n) },
		"command": func(r *runs.Run, n int) { r.Command += strings.Repeat("c", n) },
		"input":   func(r *runs.Run, n int) { r.Ins[1].Name += strings.Repeat("i", n) },
		"inputs":  func(r *runs.Run, n int) { r.Ins = append(r.Ins, runs.In{Name: strings.Repeat("i", n-10)}) },
		"some ins": func(r *runs.Run, n int) {
			r.Ins = append(r.Ins, make([]runs.In, n/10)...)
			r.Out += strings.Repeat("o", n%10)
		},
		"found": func(r *runs.Run, n int) {
			r.Found = append(r.Found, make([]int, n/8)...)
			r.Out += strings.Repeat("o", n%8)
		},
	} {
		r := rich()
		longer(&r, room)
		if b := writes(t, r); len(b) != 4096 {
			t.Errorf("%s: %d bytes", name, len(b))
		}
		for _, more := range []int{1, 2, 8, 1000, 65535 - room, 65536 - room, 1 << 16, 1 << 20} {
			r := rich()
			longer(&r, room+more)
			if b, e := runs.Write(r); e != api.ErrLong || b != nil {
				t.Errorf("%s, %d above: %d bytes, %d", name, more, len(b), e)
			}
		}
	}
}

func TestP6_1_WriteSharesNothing(t *testing.T) {
	r := rich()
	ins, found := append(slices.Clone(r.Ins), runs.In{Name: "room", Time: 9}), append(slices.Clone(r.Found), 9)
	r.Ins, r.Found = ins[:2], found[:3]
	first, second := writes(t, r), writes(t, r)
	clear(first[:cap(first)])
	if !bytes.Equal(second, record(rich())) || !runs.Same(r, rich()) || ins[2].Name != "room" || found[3] != 9 {
		t.Error("two answers share bytes, or what is handed in is turned")
	}
}

func TestP6_1_ReadTooFewOrMore(t *testing.T) {
	for _, r := range []runs.Run{{}, {Out: "o", Command: "c"}, rich(), {Command: "c", Found: []int{1}}, {Command: "c", Ins: []runs.In{{"i", 1}}}} {
		b := record(r)
		reads(t, b, r)
		for n := range b {
			isNone(t, "cut", b[:n])
		}
		for _, more := range []string{"\x00", "\x00\x00\x00\x00", "x", string(b)} {
			isNone(t, "more", append(bytes.Clone(b), more...))
		}
	}
	isNone(t, "nil", nil)
	isNone(t, "noughts", make([]byte, 36))
}

func TestP6_1_ReadHash(t *testing.T) {
	b := record(rich())
	command := bytes.Index(b, []byte("cat"))
	for at := range b {
		if at >= 8 && (at < command || at >= command+len(rich().Command)) {
			continue
		}
		for bit := range 8 {
			turned := bytes.Clone(b)
			turned[at] ^= 1 << bit
			isNone(t, "another hash", turned)
		}
	}
	isNone(t, "the output's hash", append(binary.LittleEndian.AppendUint64(nil, hashed(rich().Out)), b[8:]...))
	isNone(t, "the highest byte first", append(binary.BigEndian.AppendUint64(nil, hashed(rich().Command)), b[8:]...))
}

func TestP6_1_ReadLateTimes(t *testing.T) {
	for name, turn := range timeTurns() {
		for _, n := range []int{0, 1, 1 << 32, 1<<62 - 1} {
			r := rich()
			turn(&r, n)
			reads(t, record(r), r)
		}
		for _, n := range []int{1 << 62, 1<<62 + 1, math.MaxInt, math.MinInt, math.MinInt + 7, -1} {
			r := rich()
			turn(&r, n)
			isNone(t, name, record(r))
		}
	}
}

func TestP6_1_ReadCounts(t *testing.T) {
	head := number(number(text(text(number(nil, int(hashed("c"))), "o"), "c"), 1), 2)
	reads(t, count(count(head, 0), 0), runs.Run{Out: "o", Command: "c", Time: 1, Mark: 2})
	in, found := number(text(nil, "i"), 3), number(nil, 4)
	for _, n := range []int{0, 1, 2, 3, 4, 5, 255, 256, 1 << 16, 1 << 24, 1 << 31, 1<<32 - 1} {
		ins := count(append(count(bytes.Clone(head), n), bytes.Repeat(in, 3)...), 0)
		founds := append(count(count(bytes.Clone(head), 0), n), bytes.Repeat(found, 3)...)
		if n == 3 {
			reads(t, ins, runs.Run{Out: "o", Command: "c", Time: 1, Mark: 2, Ins: []runs.In{{"i", 3}, {"i", 3}, {"i", 3}}})
			reads(t, founds, runs.Run{Out: "o", Command: "c", Time: 1, Mark: 2, Found: []int{4, 4, 4}})
			continue
		}
		isNone(t, "inputs", ins)
		isNone(t, "found ones", founds)
		isNone(t, "nothing but a count", count(bytes.Clone(head), n))
	}
}

func TestP6_1_ReadAboveARecordsBound(t *testing.T) {
	// A bound is named for what is written alone.
	r := runs.Run{Out: strings.Repeat("o", 65535), Command: strings.Repeat("c", 65535), Ins: make([]runs.In, 1000), Found: make([]int, 1000)}
	reads(t, record(r), r)
}

func TestP6_1_ReadSharesNothing(t *testing.T) {
	whole := append(record(rich()), "room"...)
	b := whole[:len(whole)-4]
	r, _ := runs.Read(b)
	if !bytes.Equal(whole, append(record(rich()), "room"...)) {
		t.Error("what is handed in is turned")
	}
	clear(b)
	if !runs.Same(r, rich()) {
		t.Errorf("what is handed in is kept: %v", r)
	}
}

func TestP6_2_Fold(t *testing.T) {
	run := func(out string, time int) runs.Run { return runs.Run{Out: out, Time: time} }
	for _, c := range []struct{ l, want []runs.Run }{
		{nil, nil},
		{[]runs.Run{}, nil},
		{[]runs.Run{rich()}, []runs.Run{rich()}},
		{[]runs.Run{run("b", 1), run("a", 2), run("b", 3)}, []runs.Run{run("a", 2), run("b", 3)}},
		// The last one counts, not the latest, nor the one that has the most.
		{[]runs.Run{run("a", 9), {Out: "a", Command: "c", Found: []int{1}}, run("a", 1)}, []runs.Run{run("a", 1)}},
		{[]runs.Run{run("b", 1), run("", 2), run("a/b", 3), run("a", 4), run("B", 5), run("ab", 6), run("a-", 7), run("\xff", 8), run("é", 9)},
			[]runs.Run{run("", 2), run("B", 5), run("a", 4), run("a-", 7), run("a/b", 3), run("ab", 6), run("b", 1), run("é", 9), run("\xff", 8)}},
	} {
		if got := runs.Fold(c.l); !slices.EqualFunc(got, c.want, runs.Same) {
			t.Errorf("%v: %v, want %v", c.l, got, c.want)
		}
	}
}

func TestP6_2_FoldSharesNothing(t *testing.T) {
	ins, found := []runs.In{{"a", 1}, {"room", 2}}, []int{3, 4}
	l := []runs.Run{{Out: "b", Ins: ins[:1], Found: found[:1]}, {Out: "a", Ins: ins[:1], Found: found[:1]}, {Out: "room"}}
	got := runs.Fold(l[:2])
	want := []runs.Run{{Out: "a", Ins: []runs.In{{"a", 1}}, Found: []int{3}}, {Out: "b", Ins: []runs.In{{"a", 1}}, Found: []int{3}}}
	got[0].Ins[0].Time, got[0].Found[0] = 7, 8
	got[0].Ins, got[0].Found = append(got[0].Ins, runs.In{Name: "x", Time: 5}), append(got[0].Found, 6)
	if !runs.Same(got[1], want[1]) {
		t.Errorf("two runs of one answer share a list: %v", got)
	}
	if l[0].Out != "b" || l[2].Out != "room" || ins[0].Time != 1 || ins[1].Name != "room" || found[0] != 3 || found[1] != 4 {
		t.Errorf("what is handed in is turned: %v %v %v", l, ins, found)
	}
	got = runs.Fold(l[:2])
	clear(ins)
	clear(found)
	clear(l)
	if !slices.EqualFunc(got, want, runs.Same) {
		t.Errorf("what is handed in is kept: %v", got)
	}
}

func TestP6_2_Same(t *testing.T) {
	if !runs.Same(runs.Run{}, runs.Run{}) || !runs.Same(rich(), rich()) || runs.Same(rich(), runs.Run{}) || runs.Same(runs.Run{}, rich()) {
		t.Error("a run is itself alone")
	}
	if empty := (runs.Run{Ins: []runs.In{}, Found: []int{}}); !runs.Same(empty, runs.Run{}) || !runs.Same(runs.Run{}, empty) {
		t.Error("an empty list is the same as none")
	}
	for name, turn := range map[string]func(*runs.Run){
		"output":       func(r *runs.Run) { r.Out += "x" },
		"command":      func(r *runs.Run) { r.Command = "" },
		"time":         func(r *runs.Run) { r.Time++ },
		"mark":         func(r *runs.Run) { r.Mark-- },
		"no inputs":    func(r *runs.Run) { r.Ins = nil },
		"one less":     func(r *runs.Run) { r.Ins = r.Ins[:1] },
		"one more":     func(r *runs.Run) { r.Ins = append(r.Ins, runs.In{}) },
		"a name":       func(r *runs.Run) { r.Ins[1].Name = "c" },
		"a time of it": func(r *runs.Run) { r.Ins[0].Time = 2 },
		"another row":  func(r *runs.Run) { slices.Reverse(r.Ins) },
		"no found":     func(r *runs.Run) { r.Found = nil },
		"one found":    func(r *runs.Run) { r.Found = r.Found[:2] },
		"four found":   func(r *runs.Run) { r.Found = append(r.Found, 0) },
		"another":      func(r *runs.Run) { r.Found[2] = 6 },
		"turned round": func(r *runs.Run) { slices.Reverse(r.Found) },
	} {
		r := rich()
		turn(&r)
		if runs.Same(r, rich()) || runs.Same(rich(), r) || !runs.Same(r, r) {
			t.Errorf("%s", name)
		}
	}
}
