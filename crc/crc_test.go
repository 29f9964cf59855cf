package crc_test

import (
	"bytes"
	"hash/crc32"
	"hash/fnv"
	"math/rand"
	"testing"

	"bellows/crc"
)

// row is n bytes that hang on seed alone, so that each run of the tests sees the same ones.
func row(seed int64, n int) []byte {
	b := make([]byte, n)
	rand.New(rand.NewSource(seed)).Read(b)
	return b
}

// samples are rows of each small length, and of lengths about a file's greatest one.
func samples() [][]byte {
	l := [][]byte{nil, {}, {0}, {255}, make([]byte, 9), bytes.Repeat([]byte{255}, 9)}
	for n := range 70 {
		l = append(l, row(int64(n), n))
	}
	for _, n := range []int{4095, 4096, 65535, 65536} {
		l = append(l, row(int64(n), n))
	}
	return l
}

func TestP1_1_SumOfKnownBytes(t *testing.T) {
	for s, want := range map[string]uint32{
		"":          0,
		"a":         0xe8b7be43,
		"\x00":      0xd202ef8d,
		"\xff":      0xff000000,
		"abc":       0x352441c2,
		"123456789": 0xcbf43926,
		"The quick brown fox jumps over the lazy dog": 0x414fa339,
	} {
		if got := crc.Sum([]byte(s)); got != want {
			t.Errorf("Sum(%q) = %#x, want %#x", s, got, want)
		}
	}
	if got := crc.Sum(nil); got != 0 {
		t.Errorf("Sum(nil) = %#x, want 0", got)
	}
}

func TestP1_1_HashOfKnownBytes(t *testing.T) {
	for s, want := range map[string]uint64{
		"":       14695981039346656037,
		"a":      0xaf63dc4c8601ec8c,
		"b":      0xaf63df4c8601f1a5,
		"foobar": 0x85944171f73967e8,
	} {
		if got := crc.Hash([]byte(s)); got != want {
			t.Errorf("Hash(%q) = %#x, want %#x", s, got, want)
		}
	}
	if got := crc.Hash(nil); got != 14695981039346656037 {
		t.Errorf("Hash(nil) = %d", got)
	}
}

func TestP1_1_SumAndHashAreThoseOfTheLibrary(t *testing.T) {
	for _, b := range samples() {
		if got, want := crc.Sum(b), crc32.ChecksumIEEE(b); got != want {
			t.Errorf("Sum of %d bytes = %#x, want %#x", len(b), got, want)
		}
		h := fnv.New64a()
		h.Write(b)
		if got, want := crc.Hash(b), h.Sum64(); got != want {
			t.Errorf("Hash of %d bytes = %#x, want %#x", len(b), got, want)
		}
	}
}

func TestP1_1_MoreGoesOnWhereASumEnded(t *testing.T) {
	whole := row(1, 300)
	want := crc.Sum(whole)
	for cut := range len(whole) + 1 {
		if got := crc.More(crc.Sum(whole[:cut]), whole[cut:]); got != want {
			t.Errorf("cut at %d: %#x, want %#x", cut, got, want)
		}
	}
	one := uint32(0)
	for i := range whole {
		one = crc.More(one, whole[i:i+1])
	}
	if one != want {
		t.Errorf("byte by byte: %#x, want %#x", one, want)
	}
}

func TestP1_1_MoreOfAnySum(t *testing.T) {
	for _, sum := range []uint32{0, 1, 1 << 31, 0xcbf43926, 1<<32 - 1} {
		if got := crc.More(sum, nil); got != sum {
			t.Errorf("no bytes behind %#x: %#x", sum, got)
		}
		for _, b := range samples() {
			if got, want := crc.More(sum, b), crc32.Update(sum, crc32.IEEETable, b); got != want {
				t.Errorf("%d bytes behind %#x: %#x, want %#x", len(b), sum, got, want)
			}
		}
	}
}

func TestP1_1_WhatIsHandedInStays(t *testing.T) {
	room := row(2, 40)
	was := bytes.Clone(room)
	b := room[:20]
	crc.Sum(b)
	crc.More(7, b)
	crc.Hash(b)
	if !bytes.Equal(room, was) {
		t.Error("bytes that were handed in, or the room behind them, were turned")
	}
}

func TestP1_2_OneBitTurnsTheSum(t *testing.T) {
	for _, n := range []int{1, 2, 3, 4, 5, 17, 400} {
		b := row(int64(n), n)
		was := crc.Sum(b)
		for bit := range 8 * n {
			b[bit/8] ^= 1 << (bit % 8)
			if crc.Sum(b) == was {
				t.Errorf("%d bytes: bit %d turned, and the sum is the same", n, bit)
			}
			b[bit/8] ^= 1 << (bit % 8)
		}
	}
}

// turn turns the bits of b from the one at from on that pattern has, each byte's lowest one first.
func turn(b []byte, from int, pattern uint32) {
	for i := range 32 {
		if pattern>>i&1 == 1 {
			b[(from+i)/8] ^= 1 << ((from + i) % 8)
		}
	}
}

func TestP1_2_BitsWithin32TurnTheSum(t *testing.T) {
	chance := rand.New(rand.NewSource(3))
	b := row(4, 60)
	was := crc.Sum(b)
	for from := range 8*len(b) - 31 {
		// The polynomial itself, and its bits the other way round, are what a wrong order of bits would miss.
		patterns := []uint32{1<<32 - 1, 1 | 1<<31, 0xEDB88320, 0x04C11DB7}
		for range 60 {
			patterns = append(patterns, chance.Uint32()|1)
		}
		for _, p := range patterns {
			turn(b, from, p)
			if crc.Sum(b) == was {
				t.Errorf("%#x turned at bit %d, and the sum is the same", p, from)
			}
			turn(b, from, p)
		}
	}
}

func TestP1_2_FourBytesTellAllTheirValuesApart(t *testing.T) {
	met := map[uint32]uint32{}
	for i := range uint32(1 << 16) {
		v := i * 0x9E3779B1 // odd, so no two of them are the same
		sum := crc.Sum([]byte{7, byte(v), byte(v >> 8), byte(v >> 16), byte(v >> 24), 9})
		if w, ok := met[sum]; ok {
			t.Fatalf("%#x and %#x within four bytes have one sum", v, w)
		}
		met[sum] = v
	}
}

func TestP1_2_ThreeRowsTogether(t *testing.T) {
	for n := range 200 {
		x, y, z := row(int64(n), n), row(int64(n+1000), n), row(int64(n+2000), n)
		all := make([]byte, n)
		for i := range all {
			all[i] = x[i] ^ y[i] ^ z[i]
		}
		if got, want := crc.Sum(all), crc.Sum(x)^crc.Sum(y)^crc.Sum(z); got != want {
			t.Errorf("rows of %d bytes: %#x, want %#x", n, got, want)
		}
	}
}
