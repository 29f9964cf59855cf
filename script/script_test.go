package script_test

import (
	"bytes"
	"slices"
	"strings"
	"testing"

	"bellows/api"
	"bellows/script"
	"bellows/world"
)

// The kinds of an act, as the document numbers them.
const (
	write   = 1
	add     = 2
	cut     = 3
	remove  = 4
	sync    = 5
	build   = 6
	tidy    = 7
	compact = 8
	arm     = 9
	restart = 10
	read    = 11
)

const (
	most    = 1<<31 - 1
	longest = 65535 // bytes of a text
)

func names(all ...string) []string { return all }

func sameAct(a, b world.Act) bool {
	return a.Kind == b.Kind && a.N == b.N && a.Name == b.Name && bytes.Equal(a.B, b.B) && slices.Equal(a.Names, b.Names) && slices.Equal(a.Tails, b.Tails)
}

func sameActs(a, b []world.Act) bool { return slices.EqualFunc(a, b, sameAct) }

// writes asks for just these bytes of acts, and for these acts of them.
func writes(t *testing.T, l []world.Act, want ...byte) {
	t.Helper()
	if b, e := script.Write(l); e != api.OK || !bytes.Equal(b, want) {
		t.Errorf("Write(%v) = %v, %d, want %v", l, b, e, want)
	}
	if got, e := script.Read(want); e != api.OK || !sameActs(got, l) {
		t.Errorf("Read(%v) = %v, %d, want %v", want, got, e, l)
	}
}

// refusesActs asks for an error, and nothing beside it.
func refusesActs(t *testing.T, want api.Errno, l ...world.Act) {
	t.Helper()
	if b, e := script.Write(l); e != want || len(b) != 0 {
		t.Errorf("Write(%.200v) = %v, %d, want %d", l, b, e, want)
	}
}

// refusesBytes does so, of reading and of playing.
func refusesBytes(t *testing.T, want api.Errno, b ...byte) {
	t.Helper()
	if l, e := script.Read(b); e != want || len(l) != 0 {
		t.Errorf("Read(%v) = %v, %d, want %d", b, l, e, want)
	}
	for _, quota := range []int{0, 100, -1} {
		if told, e := script.Play(quota, b); e != want || len(told) != 0 {
			t.Errorf("Play(%d, %v) = %v, %d, want %d", quota, b, told, e, want)
		}
	}
}

func TestP21_1_Examples(t *testing.T) {
	writes(t, []world.Act{{Kind: remove, Name: "a"}}, 4, 1, 0, 97)
}

func TestP21_1_EachKind(t *testing.T) {
	for _, each := range []struct {
		act  world.Act
		want []byte
	}{
		{world.Act{Kind: write, Name: "ab", B: []byte{0, 255, 10}}, []byte{1, 2, 0, 97, 98, 3, 0, 0, 255, 10}},
		{world.Act{Kind: write}, []byte{1, 0, 0, 0, 0}},
		{world.Act{Kind: add, Name: "\xff\x00", B: []byte("c")}, []byte{2, 2, 0, 255, 0, 1, 0, 99}},
		{world.Act{Kind: cut, Name: "a", N: 1<<24 + 2<<16 + 3<<8 + 4}, []byte{3, 1, 0, 97, 4, 3, 2, 1}},
		{world.Act{Kind: cut}, []byte{3, 0, 0, 0, 0, 0, 0}},
		{world.Act{Kind: remove}, []byte{4, 0, 0}},
		{world.Act{Kind: sync, Name: "a/b"}, []byte{5, 3, 0, 97, 47, 98}},
		{world.Act{Kind: build}, []byte{6, 0, 0, 0, 0}},
		{world.Act{Kind: build, Names: names("a", "", "bc")}, []byte{6, 3, 0, 0, 0, 1, 0, 97, 0, 0, 2, 0, 98, 99}},
		{world.Act{Kind: tidy}, []byte{7}},
		{world.Act{Kind: compact}, []byte{8}},
		{world.Act{Kind: arm}, []byte{9, 0, 0, 0, 0}},
		{world.Act{Kind: arm, N: 258}, []byte{9, 2, 1, 0, 0}},
		{world.Act{Kind: arm, N: -1}, []byte{9, 255, 255, 255, 255}},
		{world.Act{Kind: arm, N: -258}, []byte{9, 254, 254, 255, 255}},
		{world.Act{Kind: restart}, []byte{10, 0, 0, 0, 0, 0, 0, 0, 0}},
		{world.Act{Kind: restart, N: 513, Tails: []int{0, 258}}, []byte{10, 1, 2, 0, 0, 2, 0, 0, 0, 0, 0, 0, 0, 2, 1, 0, 0}},
		{world.Act{Kind: read, Name: "o"}, []byte{11, 1, 0, 111}},
	} {
		writes(t, []world.Act{each.act}, each.want...)
		writes(t, []world.Act{{Kind: tidy}, each.act, each.act}, slices.Concat([]byte{7}, each.want, each.want)...)
	}
	writes(t, nil)
	writes(t, []world.Act{})
	// An empty list is as none.
	if b, e := script.Write([]world.Act{{Kind: arm, N: 1, B: []byte{}, Names: []string{}, Tails: []int{}}}); e != api.OK || !bytes.Equal(b, []byte{9, 1, 0, 0, 0}) {
		t.Errorf("Write = %v, %d", b, e)
	}
}

// has tells which of the fields name, bytes, number, names, tails an act of a kind has.
func has(kind int) [5]bool {
	switch kind {
	case write, add:
		return [5]bool{true, true}
	case cut:
		return [5]bool{0: true, 2: true}
	case remove, sync, read:
		return [5]bool{true}
	case build:
		return [5]bool{3: true}
	case arm:
		return [5]bool{2: true}
	case restart:
		return [5]bool{2: true, 4: true}
	}
	return [5]bool{}
}

func TestP21_1_Fields(t *testing.T) {
	for kind := write; kind <= read; kind++ {
		for set := range 1 << 5 {
			x := world.Act{Kind: kind}
			want := api.OK
			for field := range 5 {
				if set>>field&1 == 0 {
					continue
				}
				if !has(kind)[field] {
					want = api.ErrForm
				}
				switch field {
				case 0:
					x.Name = "\x00"
				case 1:
					x.B = []byte{0}
				case 2:
					x.N = 1
				case 3:
					x.Names = names("")
				case 4:
					x.Tails = []int{0}
				}
			}
			if want == api.ErrForm {
				refusesActs(t, want, x)
				continue
			}
			b, e := script.Write([]world.Act{x})
			if l, again := script.Read(b); e != api.OK || again != api.OK || !sameActs(l, []world.Act{x}) {
				t.Errorf("Write(%v) = %v, %d, which is read as %v, %d", x, b, e, l, again)
			}
		}
	}
}

func TestP21_1_KindsThatAreNone(t *testing.T) {
	for _, kind := range []int{0, -1, 12, 255, 256, 256 + tidy, 1<<16 + tidy, 1<<32 + tidy, 1<<63 - 1, -1 << 63, tidy - 1<<32} {
		refusesActs(t, api.ErrForm, world.Act{Kind: kind})
		refusesActs(t, api.ErrForm, world.Act{Kind: tidy}, world.Act{Kind: kind, N: -1, Name: strings.Repeat("a", longest+1)})
	}
	for kind := range 256 {
		if kind < write || kind > read {
			refusesBytes(t, api.ErrForm, byte(kind))
			refusesBytes(t, api.ErrForm, 7, 4, 1, 0, 97, byte(kind), 0, 0, 0, 0, 0, 0, 0, 0)
		}
	}
}

// TestP21_1_NumbersThatAreWritten: they are taken up to their bounds.
func TestP21_1_NumbersThatAreWritten(t *testing.T) {
	numbers := []int{-1 << 63, -1<<32 - 1, -1 << 32, -1<<31 - 1, -1 << 31, -2, -1, 0, 1, most, most + 1, 1<<32 - 1, 1 << 32, 1<<32 + 1, 1<<63 - 1}
	for _, n := range numbers {
		for _, x := range []world.Act{
			{Kind: cut, N: n}, {Kind: cut, Name: "a", N: n}, {Kind: arm, N: n}, {Kind: restart, N: n}, {Kind: restart, N: n, Tails: []int{1}},
			{Kind: restart, Tails: []int{n}}, {Kind: restart, Tails: []int{1, n, 2}}, {Kind: restart, N: most, Tails: []int{most, most, n}},
		} {
			if n > most || n < 0 && (x.Kind != arm || n < -1<<31) {
				refusesActs(t, api.ErrArg, x)
				refusesActs(t, api.ErrArg, world.Act{Kind: compact}, x, world.Act{})
				continue
			}
			b, e := script.Write([]world.Act{x})
			if l, again := script.Read(b); e != api.OK || again != api.OK || !sameActs(l, []world.Act{x}) {
				t.Errorf("Write(%v) = %v, %d, which is read as %v, %d", x, b, e, l, again)
			}
		}
	}
	writes(t, []world.Act{{Kind: arm, N: -1 << 31}, {Kind: arm, N: most}}, 9, 0, 0, 0, 128, 9, 255, 255, 255, 127)
}

func TestP21_1_LongTexts(t *testing.T) {
	for _, size := range []int{longest, longest + 1, 1 << 17} {
		s := strings.Repeat("a", size)
		for _, x := range []world.Act{
			{Kind: write, Name: s}, {Kind: write, B: []byte(s)}, {Kind: add, Name: s, B: []byte(s)}, {Kind: cut, Name: s, N: 1}, {Kind: remove, Name: s}, {Kind: sync, Name: s},
			{Kind: read, Name: s}, {Kind: build, Names: names(s)}, {Kind: build, Names: names("", "a", s, "b")},
		} {
			l := []world.Act{{Kind: tidy}, x, {Kind: read, Name: "b"}}
			if size > longest {
				refusesActs(t, api.ErrLong, l...)
				continue
			}
			b, e := script.Write(l)
			if got, again := script.Read(b); e != api.OK || again != api.OK || !sameActs(got, l) {
				t.Errorf("a text of %d bytes: %d, %d", size, e, again)
			}
		}
	}
}

// TestP21_1_TheFirstErrorOfAnAct: that which is named first, wherever in the act it stands.
func TestP21_1_TheFirstErrorOfAnAct(t *testing.T) {
	long := strings.Repeat("a", longest+1)
	for _, wrong := range []struct {
		want api.Errno
		act  world.Act
	}{
		{api.ErrForm, world.Act{Kind: 0, N: -1, Name: long}},
		{api.ErrForm, world.Act{Kind: cut, N: -1, Name: long, Tails: []int{0}}},
		{api.ErrForm, world.Act{Kind: cut, N: -1, B: []byte("a")}},
		{api.ErrForm, world.Act{Kind: remove, N: -1}},
		{api.ErrForm, world.Act{Kind: write, Name: long, Tails: []int{-1}}},
		{api.ErrForm, world.Act{Kind: build, Names: names(long), N: most + 1}},
		{api.ErrForm, world.Act{Kind: arm, N: most + 1, Name: long}},
		{api.ErrForm, world.Act{Kind: restart, N: -1, Tails: []int{-1}, Names: names("")}},
		{api.ErrArg, world.Act{Kind: cut, N: -1, Name: long}},
		{api.ErrArg, world.Act{Kind: cut, N: most + 1, Name: long}},
		{api.ErrLong, world.Act{Kind: cut, N: most, Name: long}},
	} {
		refusesActs(t, wrong.want, wrong.act)
	}
}

// TestP21_1_TheFirstActThatIsWrong: its error is told, whatever stands behind it.
func TestP21_1_TheFirstActThatIsWrong(t *testing.T) {
	form, arg, long := world.Act{}, world.Act{Kind: cut, N: -1}, world.Act{Kind: sync, Name: strings.Repeat("a", longest+1)}
	good := world.Act{Kind: restart, Tails: []int{1}}
	refusesActs(t, api.ErrForm, form, arg, long)
	refusesActs(t, api.ErrArg, arg, form, long)
	refusesActs(t, api.ErrLong, good, long, arg, form)
	refusesActs(t, api.ErrLong, long, good, form)
	refusesActs(t, api.ErrArg, good, good, arg, good)
	refusesBytes(t, api.ErrForm, 7, 0, 4)
	refusesBytes(t, api.ErrForm, 3, 0, 0, 0, 0, 0, 128, 12, 4)
	refusesBytes(t, api.ErrShort, 7, 8, 4, 1, 0)
}

func TestP21_1_NumbersThatAreRead(t *testing.T) {
	for high, signed := range map[byte]int{127: most, 128: -1<<31 + 1<<24 - 1, 255: -1} {
		number := []byte{255, 255, 255, high}
		for _, b := range [][]byte{
			slices.Concat([]byte{3, 0, 0}, number), slices.Concat([]byte{3, 1, 0, 97}, number), slices.Concat([]byte{10}, number, []byte{0, 0, 0, 0}),
			slices.Concat([]byte{10, 0, 0, 0, 0, 1, 0, 0, 0}, number), slices.Concat([]byte{10, 0, 0, 0, 0, 2, 0, 0, 0}, number, number),
		} {
			if high > 127 {
				refusesBytes(t, api.ErrForm, b...)
				refusesBytes(t, api.ErrForm, append(b, 7, 4, 9, 9)...)
			} else if l, e := script.Read(b); e != api.OK || len(l) != 1 || l[0].N+slices.Max(append(l[0].Tails, 0)) != most {
				t.Errorf("Read(%v) = %v, %d", b, l, e)
			}
		}
		if l, e := script.Read(append([]byte{arm}, number...)); e != api.OK || !sameActs(l, []world.Act{{Kind: arm, N: signed}}) {
			t.Errorf("Read = %v, %d, want %d", l, e, signed)
		}
	}
	// So it is where the act has too few bytes, too; and of how many there are.
	refusesBytes(t, api.ErrForm, 10, 0, 0, 0, 128)
	refusesBytes(t, api.ErrForm, 10, 0, 0, 0, 128, 0)
	refusesBytes(t, api.ErrForm, 10, 0, 0, 0, 0, 0, 0, 0, 128)
	refusesBytes(t, api.ErrForm, 10, 0, 0, 0, 0, 255, 255, 255, 127, 0, 0, 0, 128)
	refusesBytes(t, api.ErrForm, 6, 0, 0, 0, 128)
	refusesBytes(t, api.ErrForm, 6, 255, 255, 255, 255, 1)
	refusesBytes(t, api.ErrShort, 10, 0, 0, 128)
	refusesBytes(t, api.ErrShort, 3, 1, 0, 255, 255, 255, 255)
}

// TestP21_1_TooFewBytes: each act, cut anywhere, has too few; so has one that counts more than there is.
func TestP21_1_TooFewBytes(t *testing.T) {
	l := []world.Act{
		{Kind: write, Name: "a", B: []byte("12")}, {Kind: add, Name: "bc"}, {Kind: cut, Name: "d", N: 3}, {Kind: remove, Name: "e"}, {Kind: sync}, {Kind: build}, {Kind: build, Names: names("f", "", "gh")},
		{Kind: tidy}, {Kind: compact}, {Kind: arm, N: -2}, {Kind: restart}, {Kind: restart, N: 1, Tails: []int{1, 2}}, {Kind: read, Name: "i"},
	}
	var whole []byte
	for n, x := range l {
		b, e := script.Write([]world.Act{x})
		if e != api.OK {
			t.Fatalf("Write(%v): %d", x, e)
		}
		for size := 1; size < len(b); size++ {
			refusesBytes(t, api.ErrShort, b[:size]...)
			refusesBytes(t, api.ErrShort, slices.Concat(whole, b[:size])...)
		}
		whole = append(whole, b...)
		if got, e := script.Read(whole); e != api.OK || !sameActs(got, l[:n+1]) {
			t.Errorf("Read(%v) = %v, %d", whole, got, e)
		}
	}
	refusesBytes(t, api.ErrShort, 6, 255, 255, 255, 127)
	refusesBytes(t, api.ErrShort, 6, 2, 0, 0, 0, 0, 0)
	refusesBytes(t, api.ErrShort, 10, 255, 255, 255, 127, 255, 255, 255, 127, 1, 0, 0, 0)
	refusesBytes(t, api.ErrShort, append([]byte{6, 255, 255, 255, 127}, make([]byte, 1<<20)...)...)
	refusesBytes(t, api.ErrShort, append([]byte{4, 255, 255}, make([]byte, longest-1)...)...)
}

// TestP21_1_Plays: what a world tells of the acts.
func TestP21_1_Plays(t *testing.T) {
	l := []world.Act{
		{Kind: write, Name: "build.ninja", B: []byte("rule r\n command = rev $in > $out\nbuild o: r a\n")}, {Kind: add, Name: "a", B: []byte("123")}, {Kind: cut, Name: "a", N: 2},
		{Kind: build, Names: names("o")}, {Kind: build}, {Kind: read, Name: "o"}, {Kind: sync, Name: "o"}, {Kind: remove, Name: "a"}, {Kind: build},
		{Kind: restart, N: 1, Tails: []int{9}}, {Kind: tidy}, {Kind: compact}, {Kind: arm}, {Kind: write, Name: "/"}, {Kind: arm, N: -1}, {Kind: restart}, {Kind: write, Name: "/"},
	}
	b, e := script.Write(l)
	if e != api.OK {
		t.Fatalf("Write: %d", e)
	}
	for _, quota := range []int{1 << 20, 100, 60, 0, -1, api.MaxQuota, api.MaxQuota + 1} {
		want, wrong := world.Run(quota, l)
		got, e := script.Play(quota, b)
		if e != wrong || !slices.EqualFunc(got, want, sameOut) || (e == api.OK) != (len(got) == len(l)) {
			t.Errorf("Play(%d) = %v, %d, want %v, %d", quota, got, e, want, wrong)
		}
	}
	told, _ := script.Play(1<<20, b)
	if !slices.Equal(told[3].Names, names("o")) || told[3].Records != 1 || len(told[4].Names) != 0 || string(told[5].B) != "21" || told[8].E != api.ErrMissing || told[13].E != api.ErrDown || told[16].E != api.ErrName {
		t.Errorf("Play = %v", told)
	}
	if told, e := script.Play(1<<20, nil); e != api.OK || len(told) != 0 {
		t.Errorf("Play of nothing = %v, %d", told, e)
	}
	if told, e := script.Play(-1, nil); e != api.ErrArg || len(told) != 0 {
		t.Errorf("Play of nothing = %v, %d", told, e)
	}
}

func sameOut(a, b world.Out) bool {
	return a.E == b.E && a.Records == b.Records && slices.Equal(a.Names, b.Names) && bytes.Equal(a.B, b.B)
}

// TestP21_1_WhatIsHandedInAndOut: neither is changed, or kept.
func TestP21_1_WhatIsHandedInAndOut(t *testing.T) {
	l := []world.Act{{Kind: write, Name: "a", B: []byte("12")}, {Kind: build, Names: names("b", "c")}, {Kind: restart, N: 3, Tails: []int{4, 5}}}
	b, _ := script.Write(l)
	was := slices.Clone(b)
	l[0].B[0], l[1].Names[0], l[2].Tails[0] = 'x', "x", 9
	if !bytes.Equal(b, was) {
		t.Errorf("%v was written, and is %v", was, b)
	}
	l[0].B[0], l[1].Names[0], l[2].Tails[0] = '1', "b", 4
	room := append(slices.Clone(b), 0, 0, 0)
	one, _ := script.Read(room[:len(b)])
	two, _ := script.Read(room[:len(b)])
	if !bytes.Equal(room, append(slices.Clone(b), 0, 0, 0)) {
		t.Errorf("%v was handed in", room)
	}
	clear(room)
	two[0].B[0], two[1].Names[0], two[2].Tails[0] = 'x', "x", 9
	if !sameActs(one, l) {
		t.Errorf("%v was read, want %v", one, l)
	}
	// No list of an answer has another one's room behind it.
	three, _ := script.Read(slices.Concat(was, was))
	for i := range three {
		three[i].B = append(three[i].B, 'x')
		three[i].Names = append(three[i].Names, "x")
		three[i].Tails = append(three[i].Tails, 9)
	}
	for i, x := range l {
		x.B, x.Names, x.Tails = append(x.B, 'x'), append(x.Names, "x"), append(x.Tails, 9)
		if !sameAct(three[i], x) || !sameAct(three[i+3], x) {
			t.Errorf("%v and %v were read, want %v", three[i], three[i+3], x)
		}
	}
}
