package pack_test

import (
	"bytes"
	"math/rand"
	"strings"
	"testing"

	"bellows/api"
	"bellows/pack"
)

// text is what Text answers for a text that it must take.
func text(t *testing.T, b []byte, s string) []byte {
	t.Helper()
	out, e := pack.Text(b, s)
	if e != api.OK {
		t.Fatalf("Text of %d bytes: error %d", len(s), e)
	}
	return out
}

// nothing tells whether r is not right, and tells nothing, whatever it is asked.
func nothing(r *pack.Reader) bool {
	return r.U32() == 0 && r.U64() == 0 && r.Text() == "" && r.Left() == 0 && !r.Right()
}

func TestP2_1_Numbers(t *testing.T) {
	for _, c := range []struct {
		got, want []byte
	}{
		{pack.U32(nil, 0), []byte{0, 0, 0, 0}},
		{pack.U32([]byte{}, 1), []byte{1, 0, 0, 0}},
		{pack.U32([]byte{9}, 0x01020304), []byte{9, 4, 3, 2, 1}},
		{pack.U32(nil, 1<<32-1), []byte{255, 255, 255, 255}},
		{pack.U64(nil, 0), make([]byte, 8)},
		{pack.U64([]byte{}, 1), []byte{1, 0, 0, 0, 0, 0, 0, 0}},
		{pack.U64([]byte{9, 8}, 0x0102030405060708), []byte{9, 8, 8, 7, 6, 5, 4, 3, 2, 1}},
		{pack.U64(nil, 1<<64-1), bytes.Repeat([]byte{255}, 8)},
	} {
		if !bytes.Equal(c.got, c.want) {
			t.Errorf("%v, want %v", c.got, c.want)
		}
	}
}

func TestP2_1_Texts(t *testing.T) {
	for _, c := range []struct {
		b    []byte
		s    string
		want []byte
	}{
		{nil, "", []byte{0, 0}},
		{[]byte{9}, "", []byte{9, 0, 0}},
		{pack.U32(nil, 1), "ab", []byte{1, 0, 0, 0, 2, 0, 97, 98}},
		{nil, "\x00\xff\n", []byte{3, 0, 0, 255, 10}},
		{nil, "ü", []byte{2, 0, 0xc3, 0xbc}},
	} {
		if got := text(t, c.b, c.s); !bytes.Equal(got, c.want) {
			t.Errorf("%v and %q: %v, want %v", c.b, c.s, got, c.want)
		}
	}
}

func TestP2_1_LongTexts(t *testing.T) {
	for _, n := range []int{255, 256, 257, 65534, 65535} {
		s := strings.Repeat("x", n)
		got := text(t, []byte{5}, s)
		if want := append([]byte{5, byte(n), byte(n >> 8)}, s...); !bytes.Equal(got, want) {
			t.Errorf("a text of %d bytes is put wrong", n)
		}
	}
	for _, n := range []int{65536, 65537, 1 << 17, 1<<16 + 1<<17} {
		for _, b := range [][]byte{nil, {1, 2}} {
			if got, e := pack.Text(b, strings.Repeat("x", n)); e != api.ErrLong || got != nil {
				t.Errorf("a text of %d bytes behind %v: %d bytes and error %d", n, b, len(got), e)
			}
		}
	}
}

func TestP2_1_WhatIsHandedInStays(t *testing.T) {
	puts := map[string]func(b []byte, n byte) []byte{
		"U32":  func(b []byte, n byte) []byte { return pack.U32(b, uint32(n)) },
		"U64":  func(b []byte, n byte) []byte { return pack.U64(b, uint64(n)) },
		"Text": func(b []byte, n byte) []byte { return text(t, b, string([]byte{n})) },
	}
	for name, put := range puts {
		room := bytes.Repeat([]byte{77}, 40)
		b := room[:3]
		first := put(b, 1)
		kept := bytes.Clone(first)
		second := put(b, 2)
		if !bytes.Equal(room, bytes.Repeat([]byte{77}, 40)) {
			t.Errorf("%s: the list, or the room behind its end, was turned", name)
		}
		if !bytes.Equal(first, kept) || bytes.Equal(first, second) {
			t.Errorf("%s: two answers of one list share bytes", name)
		}
		clear(first)
		if b[0] != 77 {
			t.Errorf("%s: the answer is not new", name)
		}
		b[0] = 5
		if second[0] != 77 {
			t.Errorf("%s: what is handed in is kept", name)
		}
	}
	room := bytes.Repeat([]byte{77}, 40)
	text(t, room[:3], "")
	pack.Text(room[:3], strings.Repeat("x", 65536))
	if !bytes.Equal(room, bytes.Repeat([]byte{77}, 40)) {
		t.Error("Text: an empty, or too long, text turns what is handed in")
	}
}

func TestP2_2_TakesInOrder(t *testing.T) {
	r := pack.New([]byte{4, 3, 2, 1, 5, 0, 0, 0, 0, 0, 0, 128, 2, 0, 97, 98, 0, 0, 200})
	if n, left := r.U32(), r.Left(); n != 0x01020304 || left != 15 {
		t.Errorf("U32 = %#x, %d left", n, left)
	}
	if n, left := r.U64(), r.Left(); n != 1<<63|5 || left != 7 {
		t.Errorf("U64 = %#x, %d left", n, left)
	}
	if s, left := r.Text(), r.Left(); s != "ab" || left != 3 {
		t.Errorf("Text = %q, %d left", s, left)
	}
	if s, left := r.Text(), r.Left(); s != "" || left != 1 || !r.Right() {
		t.Errorf("an empty text = %q, %d left, right %v", s, left, r.Right())
	}
}

func TestP2_2_NoBytes(t *testing.T) {
	for _, b := range [][]byte{nil, {}} {
		if r := pack.New(b); r.Left() != 0 || !r.Right() {
			t.Error("a reader of no bytes that was asked nothing is right")
		}
		for name, take := range takes() {
			r := pack.New(b)
			take(r)
			if !nothing(r) {
				t.Errorf("%s of no bytes", name)
			}
		}
	}
}

func takes() map[string]func(*pack.Reader) bool {
	return map[string]func(*pack.Reader) bool{
		"U32":  func(r *pack.Reader) bool { return r.U32() == 0 },
		"U64":  func(r *pack.Reader) bool { return r.U64() == 0 },
		"Text": func(r *pack.Reader) bool { return r.Text() == "" },
	}
}

func TestP2_2_JustEnoughAndTooFew(t *testing.T) {
	many := bytes.Repeat([]byte{1}, 8)
	for n := range 9 {
		if r := pack.New(many[:n]); n >= 4 {
			if r.U32() != 0x01010101 || r.Left() != n-4 || !r.Right() {
				t.Errorf("U32 of %d bytes", n)
			}
		} else if r.U32() != 0 || !nothing(r) {
			t.Errorf("U32 of %d bytes, too few", n)
		}
		if r := pack.New(many[:n]); n >= 8 {
			if r.U64() != 0x0101010101010101 || r.Left() != n-8 || !r.Right() {
				t.Errorf("U64 of %d bytes", n)
			}
		} else if r.U64() != 0 || !nothing(r) {
			t.Errorf("U64 of %d bytes, too few", n)
		}
	}
	whole := []byte{3, 0, 'a', 'b', 'c'}
	for n := range len(whole) {
		if r := pack.New(whole[:n]); r.Text() != "" || !nothing(r) {
			t.Errorf("Text of %d bytes, too few", n)
		}
	}
	if r := pack.New(whole); r.Text() != "abc" || r.Left() != 0 || !r.Right() {
		t.Error("Text of just enough bytes")
	}
}

func TestP2_2_LongTexts(t *testing.T) {
	for _, n := range []int{256, 65535} {
		s := strings.Repeat("y", n)
		b := append([]byte{byte(n), byte(n >> 8)}, s...)
		if r := pack.New(b); r.Text() != s || r.Left() != 0 || !r.Right() {
			t.Errorf("a text of %d bytes", n)
		}
		if r := pack.New(b[:n+1]); r.Text() != "" || !nothing(r) {
			t.Errorf("a text of %d bytes, one of which is missing", n)
		}
	}
}

func TestP2_2_NotRightFromThenOn(t *testing.T) {
	// What stands here would be enough for another take, had the first one not failed.
	for name, c := range map[string]struct {
		b    []byte
		take func(*pack.Reader) bool
	}{
		"U32":  {[]byte{1, 0, 97}, takes()["U32"]},
		"U64":  {[]byte{1, 0, 0, 0, 1, 0, 97}, takes()["U64"]},
		"Text": {[]byte{9, 0, 1, 0, 97, 1, 0, 0, 0}, takes()["Text"]},
	} {
		for again, next := range takes() {
			r := pack.New(c.b)
			if !c.take(r) || r.Right() || r.Left() != 0 {
				t.Errorf("%s, too few: right %v, %d left", name, r.Right(), r.Left())
			}
			if !next(r) || !nothing(r) {
				t.Errorf("%s behind a %s that failed", again, name)
			}
		}
	}
}

func TestP2_2_Nil(t *testing.T) {
	var r *pack.Reader
	if r.U32() != 0 || r.U64() != 0 || r.Text() != "" || r.Left() != 0 || r.Right() {
		t.Error("a reader that is nil tells something")
	}
}

func TestP2_2_BytesAreNotKept(t *testing.T) {
	room := []byte{1, 0, 97, 7, 0, 0, 0, 5, 5, 5, 5}
	b := room[:7]
	was := bytes.Clone(room)
	r, other := pack.New(b), pack.New(b)
	if other.Text() != "a" || other.U32() != 7 || other.Left() != 0 {
		t.Error("two readers of the same bytes")
	}
	if !bytes.Equal(room, was) {
		t.Error("reading turns what is handed in")
	}
	clear(room)
	if r.Text() != "a" || r.U32() != 7 || r.Left() != 0 || !r.Right() {
		t.Error("what is turned behind New turns what is read")
	}
	if r.U32() != 0 || r.Right() {
		t.Error("the room behind the list's end is read")
	}
}

// put puts n numbers and texts that hang on seed alone, and what stands behind them; the answer is these bytes, and what takes them again.
func put(t *testing.T, seed int64, n int, behind []byte) ([]byte, []func(*pack.Reader) bool) {
	chance := rand.New(rand.NewSource(seed))
	var b []byte
	var again []func(*pack.Reader) bool
	for range n {
		switch chance.Intn(3) {
		case 0:
			v := chance.Uint32() >> chance.Intn(32)
			b = pack.U32(b, v)
			again = append(again, func(r *pack.Reader) bool { return r.U32() == v })
		case 1:
			v := chance.Uint64() >> chance.Intn(64)
			b = pack.U64(b, v)
			again = append(again, func(r *pack.Reader) bool { return r.U64() == v })
		default:
			raw := make([]byte, chance.Intn(600))
			chance.Read(raw)
			s := string(raw)
			b = text(t, b, s)
			again = append(again, func(r *pack.Reader) bool { return r.Text() == s })
		}
	}
	return append(b, behind...), again
}

func TestP2_3_WhatIsPutIsTaken(t *testing.T) {
	for seed := range int64(60) {
		for _, behind := range [][]byte{nil, {0}, {255, 255, 255}, bytes.Repeat([]byte{1}, 20)} {
			b, again := put(t, seed, int(seed), behind)
			r := pack.New(b)
			for i, take := range again {
				if !take(r) || !r.Right() {
					t.Fatalf("seed %d: what was put as number %d is not taken", seed, i)
				}
			}
			if r.Left() != len(behind) || !r.Right() {
				t.Errorf("seed %d: %d left, want %d", seed, r.Left(), len(behind))
			}
		}
	}
}

func TestP2_3_WhatIsCutEndsThere(t *testing.T) {
	b, again := put(t, 5, 6, nil)
	for cut := range len(b) {
		r := pack.New(b[:cut])
		for _, take := range again {
			if !take(r) && r.Right() {
				t.Fatalf("cut at %d: something else is taken", cut)
			}
		}
		if r.Right() || r.Left() != 0 {
			t.Errorf("cut at %d: all was taken", cut)
		}
	}
}
