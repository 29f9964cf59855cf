package reclog_test

import (
	"bytes"
	"fmt"
	"math/rand"
	"slices"
	"testing"

	"bellows/api"
	"bellows/disk"
	"bellows/reclog"
)

// tale is what a log may be behind a restart.
type tale struct {
	records []string
	sure    int        // so many of the first records are there behind any restart
	anew    [][]string // what rewritings that did not come to their end were to make of it
}

func (x *tale) append(record string) { x.records = append(slices.Clip(x.records), record) }

func (x *tale) rewrite(records []string, e api.Errno) {
	if e == api.OK {
		*x = tale{records: records, sure: len(records)}
	} else if e == api.ErrDown {
		x.anew = append(x.anew, records)
	}
}

// restart takes what was found behind one, if it may be.
func (x *tale) restart(records []string) bool {
	right := len(records) >= x.sure && len(records) <= len(x.records) && slices.Equal(records, x.records[:len(records)])
	right = right || slices.ContainsFunc(x.anew, func(anew []string) bool { return slices.Equal(anew, records) })
	*x = tale{records: records, sure: len(records)}
	return right
}

// whole checks that a log's file is its records to the last byte, without a spare one.
func whole(t *testing.T, d *disk.Disk, records []string) {
	t.Helper()
	if b, e := d.Read("l"); e != api.OK || string(b) != file(4, records...) {
		t.Errorf("the file is %q, error %d; want the records %q", b, e, records)
	}
	if _, e := d.Stat("l.new"); e != api.ErrMissing {
		t.Errorf("the spare file is there: %d", e)
	}
}

func TestP5_4_OneLifeThroughAllCrashes(t *testing.T) {
	const lived = 20 // deeds
	for crash := range lived + 1 {
		for dir := range 7 {
			for tail := range 60 {
				d := fresh(t, 10000)
				d.Arm(crash)
				x := live(d)
				if crash == lived != !d.Down() {
					t.Fatalf("down behind %d deeds: %t", crash, d.Down())
				}
				d.Restart(disk.Keep{Dir: dir, Tails: []int{tail, tail / 8}})
				_, records, e := reclog.Open(d, "l", 4)
				if was := *x; e != api.OK || !x.restart(texts(records)) {
					t.Fatalf("crash at %d, %d changes, tail %d: %q, error %d; want of %+v", crash, dir, tail, records, e, was)
				}
				whole(t, d, texts(records))
			}
		}
	}
}

// live is a life of a log; it goes on when the disk is down, and nothing comes of that.
func live(d *disk.Disk) *tale {
	x := &tale{}
	l, _, _ := reclog.Open(d, "l", 4)
	put := func(records ...string) {
		for _, r := range records {
			if l.Append([]byte(r)) == api.OK {
				x.append(r)
			}
		}
	}
	sync := func() {
		if l.Sync() == api.OK {
			x.sure = len(x.records)
		}
	}
	rewrite := func(records ...string) { x.rewrite(records, l.Rewrite(lists(records...))) }
	put("a", "bcd")
	sync()
	put("", "ef")
	rewrite("ef", "g")
	put("hi")
	if m, _, e := reclog.Open(d, "l", 4); e == api.OK {
		l = m
	}
	put("jklm")
	sync()
	rewrite()
	put("n")
	return x
}

func TestP5_4_ManyLives(t *testing.T) {
	met := map[string]int{}
	for seed := range int64(3000) {
		chance := rand.New(rand.NewSource(seed))
		d, x := fresh(t, 60+chance.Intn(200)), &tale{}
		l := open(t, d, "l", 4)
		for i := range 60 {
			record := fmt.Sprint(i, "-", seed)[:chance.Intn(6)%len(fmt.Sprint(i, "-"))]
			switch chance.Intn(12) {
			default:
				if l.Append([]byte(record)) == api.OK {
					x.append(record)
				}
			case 0, 1:
				if l.Sync() == api.OK {
					x.sure = len(x.records)
					met["sync"]++
				}
			case 2:
				records := slices.Clone(x.records[chance.Intn(len(x.records)+1):])
				e := l.Rewrite(lists(records...))
				x.rewrite(records, e)
				met[fmt.Sprint("rewrite ", e)]++
			case 3:
				d.Arm(chance.Intn(6))
			case 4:
				if !d.Down() {
					d.Arm(-1)
					l = open(t, d, "l", 4, x.records...)
					whole(t, d, x.records)
				}
			case 5:
				l = restart(t, d, x, chance)
				met["restart"]++
			}
			if t.Failed() {
				t.Fatalf("life %d, act %d", seed, i)
			}
		}
	}
	for _, what := range []string{"sync", "restart", "rewrite 0", fmt.Sprint("rewrite ", api.ErrDown), fmt.Sprint("rewrite ", api.ErrSpace)} {
		if met[what] < 1000 {
			t.Errorf("%s was met %d times alone", what, met[what])
		}
	}
}

// restart restarts the disk, now and then goes down in the opening, and opens the log.
func restart(t *testing.T, d *disk.Disk, x *tale, chance *rand.Rand) *reclog.Log {
	t.Helper()
	for {
		k := disk.Keep{Dir: chance.Intn(6)}
		for range chance.Intn(3) {
			k.Tails = append(k.Tails, chance.Intn(30))
		}
		d.Restart(k)
		if chance.Intn(2) == 0 {
			d.Arm(chance.Intn(2))
		}
		l, records, e := reclog.Open(d, "l", 4)
		if e == api.ErrDown {
			continue
		}
		d.Arm(-1)
		if was := *x; e != api.OK || !x.restart(texts(records)) {
			t.Fatalf("%q, error %d; want of %+v", records, e, was)
		}
		whole(t, d, x.records)
		return l
	}
}

func TestP5_4_WhatIsCutHasTheFirstRecords(t *testing.T) {
	records := []string{"abc", "", "\x00\x00\x00", file(4, "x"), string(make([]byte, 300)), "z"}
	all := file(4, records...)
	for n := range len(all) + 1 {
		want := 0
		for want < len(records) && len(file(4, records[:want+1]...)) <= n {
			want++
		}
		l, end, e := reclog.Scan([]byte(all[:n]), 4)
		at := len(file(4, records[:want]...))
		if n < 8 {
			at = 0
		}
		if e != api.OK || end != at || !slices.Equal(texts(l), records[:want]) {
			t.Errorf("%d bytes: %q, %d, %d", n, l, end, e)
		}
	}
}

func TestP5_4_AByteThatIsTurnedEndsThem(t *testing.T) {
	records := []string{"abc", "", "\x00\x00\x00", file(4, "x"), string(make([]byte, 300)), "z"}
	all := []byte(file(4, records...))
	for i := range records {
		begin, end := len(file(4, records[:i]...)), len(file(4, records[:i+1]...))
		for at := begin + 4; at < end; at++ {
			for turn := 1; turn < 256; turn++ {
				b := bytes.Clone(all)
				b[at] ^= byte(turn)
				if l, got, e := reclog.Scan(b, 4); e != api.OK || got != begin || !slices.Equal(texts(l), records[:i]) {
					t.Fatalf("byte %d turned by %d: %q, %d, %d", at, turn, l, got, e)
				}
			}
		}
	}
}
