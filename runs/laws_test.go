package runs_test

import (
	"bytes"
	"math/rand"
	"slices"
	"testing"

	"bellows/api"
	"bellows/runs"
)

// anyRun is a run that hangs on chance alone.
func anyRun(chance *rand.Rand) runs.Run {
	word := func() string {
		b := make([]byte, chance.Intn(12))
		chance.Read(b)
		return string(b)
	}
	time := func() int { return int(chance.Uint64() >> (2 + chance.Intn(62))) }
	r := runs.Run{Out: word(), Command: word(), Time: time(), Mark: time()}
	for range chance.Intn(5) {
		r.Ins = append(r.Ins, runs.In{Name: word(), Time: time()})
	}
	for range chance.Intn(5) {
		r.Found = append(r.Found, time())
	}
	return r
}

func TestP6_3_WhatIsWrittenIsRead(t *testing.T) {
	for seed := range int64(2000) {
		r := anyRun(rand.New(rand.NewSource(seed)))
		reads(t, writes(t, r), r)
	}
	for _, found := range []int{0, 1, 500} {
		r := runs.Run{Out: "o", Command: "c", Found: make([]int, found)}
		reads(t, writes(t, r), r)
	}
}

func TestP6_3_WhatIsReadIsWritten(t *testing.T) {
	read := 0
	for seed := range int64(20000) {
		chance := rand.New(rand.NewSource(seed))
		b := record(anyRun(chance))
		for range chance.Intn(3) {
			at := chance.Intn(len(b))
			switch chance.Intn(3) {
			case 0:
				b[at] ^= 1 << chance.Intn(8)
			case 1:
				b = slices.Delete(b, at, at+1)
			case 2:
				b = slices.Insert(b, at, byte(chance.Intn(3)))
			}
		}
		r, e := runs.Read(b)
		if e != api.OK && e != api.ErrForm {
			t.Fatalf("%v: %d", b, e)
		}
		if e == api.ErrForm {
			continue
		}
		read++
		if again, e := runs.Write(r); e != api.OK || !bytes.Equal(again, b) {
			t.Fatalf("%v is read as %v, and written as %v, %d", b, r, again, e)
		}
	}
	if read < 7000 || read > 15000 {
		t.Errorf("%d of all were read", read)
	}
}

func TestP6_3_ReadOfAnyBytes(t *testing.T) {
	chance := rand.New(rand.NewSource(1))
	for range 20000 {
		b := make([]byte, chance.Intn(80))
		chance.Read(b)
		isNone(t, "any bytes", b)
	}
}

func TestP6_3_FoldOfAFold(t *testing.T) {
	for seed := range int64(500) {
		chance := rand.New(rand.NewSource(seed))
		var l []runs.Run
		for range chance.Intn(20) {
			r := anyRun(chance)
			r.Out = string(rune('a' + chance.Intn(6)))
			l = append(l, r)
		}
		all := runs.Fold(l)
		for i, r := range all {
			last := len(l) - 1
			for l[last].Out != r.Out {
				last--
			}
			if !runs.Same(r, l[last]) || i > 0 && all[i-1].Out >= r.Out {
				t.Fatalf("fold of %v: %v", l, all)
			}
		}
		for _, r := range l {
			if !slices.ContainsFunc(all, func(x runs.Run) bool { return x.Out == r.Out }) {
				t.Fatalf("%s is not in the fold", r.Out)
			}
		}
		for n := range len(l) + 1 {
			if got := runs.Fold(append(runs.Fold(l[:n]), l[n:]...)); !slices.EqualFunc(got, all, runs.Same) {
				t.Fatalf("cut at %d: %v, want %v", n, got, all)
			}
		}
	}
}
