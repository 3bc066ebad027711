package wal_test

import (
	"fmt"
	"math/rand"
	"slices"
	"strings"
	"testing"

	"rolodex/api"
	"rolodex/device"
	"rolodex/wal"
)

// A keeper appends, and knows what an opening may find: the first ones of all records, and no fewer
// than are sure.
type keeper struct {
	d           *device.Device
	l           *wal.Log
	from, count int
	least       uint32
	all         []string
	sure        int
}

func newKeeper(t *testing.T, d *device.Device, from, count int, least, generation uint32) *keeper {
	t.Helper()
	k := &keeper{d: d, from: from, count: count, least: least}
	k.open(t, generation)
	return k
}

// open holds what is there to what may be. What is found is what was there at the last opening from
// then on: the next one doesn't bring another record back.
func (k *keeper) open(t *testing.T, generation uint32) {
	t.Helper()
	l, x, e := wal.Open(k.d, k.from, k.count, k.least, generation)
	want(t, "Open", e, api.OK)
	if len(x) < k.sure || len(x) > len(k.all) {
		t.Fatalf("records: %q, the first %v or more of %q", x, k.sure, k.all)
	}
	wantTexts(t, x, k.all[:len(x)])
	k.l, k.all = l, k.all[:len(x)]
}

// restart lets the power go and opens the log. What is there then lasts.
func (k *keeper) restart(t *testing.T, generation uint32, list ...int) {
	t.Helper()
	k.d.Restart(list)
	k.open(t, generation)
	k.sure = len(k.all)
}

func (k *keeper) append(record string) api.Errno {
	e := k.l.Append([]byte(record))
	if e == api.OK {
		k.all = append(slices.Clone(k.all), record)
	}
	return e
}

func (k *keeper) flush() api.Errno {
	e := k.l.Flush()
	if e == api.OK {
		k.sure = len(k.all)
	}
	return e
}

// play does some steps: a record's number of parts, or 0 of a flush; the first error ends it.
func (k *keeper) play(name string, steps ...int) {
	for i, parts := range steps {
		e := api.OK
		if parts == 0 {
			e = k.flush()
		} else {
			e = k.append(strings.Repeat(full, parts-1) + name + fmt.Sprint(i))
		}
		if e != api.OK {
			return
		}
	}
}

// edges are numbers of kept bytes about a page's fields.
func edges() []int {
	return []int{0, 1, 3, 4, 7, 8, 9, 10, 11, 12, 60, 119, 120, 121, 123, 124, 127, 128}
}

// One power cut: at each operation, each write that waits kept by each number of bytes, the others
// by none, or whole.
func TestP92OneCrash(t *testing.T) {
	steps := []int{1, 2, 0, 1, 3, 1, 0, 2, 1}
	for fuse := range 15 {
		for torn := range 8 {
			for keep := range 129 {
				for others := range 2 {
					k := newKeeper(t, newDevice(t, 12), 0, 12, 1, 1)
					k.d.SetFuse(fuse)
					k.play("a", steps...)
					list := slices.Repeat([]int{others * 128}, 8)
					list[torn] = keep
					k.restart(t, 2, list...)
					k.play("b", 1, 0)
					k.restart(t, 3)
				}
			}
		}
	}
}

// What is flushed is there, and what waits is there just as far as it was kept whole: a page without
// its last byte, which is its place's, isn't right.
func TestP92WhatIsKept(t *testing.T) {
	for whole := range 8 {
		for keep := range 128 {
			k := newKeeper(t, newDevice(t, 9), 0, 9, 1, 1)
			k.play("a", 1, 0, 1, 2, 1, 3)
			list := append(slices.Repeat([]int{128}, whole), keep)
			k.restart(t, 2, list...)
			records := []int{1, 2, 2, 3, 4, 4, 4, 5}[whole]
			if len(k.all) != records {
				t.Fatal(whole, "pages kept, and", keep, "bytes:", len(k.all), "records and not", records)
			}
		}
	}
}

// Two power cuts, one behind the other, all writes that wait kept by numbers of bytes about the
// page's fields; three pages wait each time.
func TestP92TwoCrashes(t *testing.T) {
	few := []int{0, 8, 60, 120, 128}
	for _, shapes := range [][2][]int{
		{{1, 1, 1}, {1, 1, 1}}, {{1, 1, 1}, {3}}, {{3}, {1, 1, 1}}, {{3}, {3}}, {{1, 2}, {2, 1}}, {{2, 1}, {1, 2}}, {{1, 2}, {3}}, {{3}, {2, 1}},
	} {
		for n := range 5 * 5 * 5 * 5 * 5 * 5 {
			if testing.Short() && n%11 != 0 {
				continue
			}
			var lists [2][]int
			for i := range 6 {
				lists[i%2] = append(lists[i%2], few[n%5])
				n /= 5
			}
			k := newKeeper(t, newDevice(t, 4), 0, 4, 1, 1)
			k.play("a", shapes[0]...)
			k.restart(t, 2, lists[0]...)
			k.play("b", shapes[1]...)
			k.restart(t, 3, lists[1]...)
			k.play("c", 1, 0)
			k.restart(t, 4)
		}
	}
}

// Three power cuts, in each of which one page is torn anywhere: the mark of the one may not stand
// for the other's.
func TestP92ThreeCrashes(t *testing.T) {
	for _, g := range [][3]uint32{{1, 2, 3}, {254, 255, 256}, {255, 256, 257}, {65535, 65536, 65537}, {1<<32 - 3, 1<<32 - 2, 1<<32 - 1}, {1, 256, 65536}} {
		for _, one := range edges() {
			for _, two := range edges() {
				for _, three := range edges() {
					k := newKeeper(t, newDevice(t, 2), 0, 2, 1, g[0])
					k.play("a", 1, 1)
					k.restart(t, g[1], 0, one)
					k.play("b", 1, 1)
					k.restart(t, g[2], 0, two)
					k.play("c", 1, 1)
					k.restart(t, 1<<32-1, 128, three)
				}
			}
		}
	}
}

// A record is kept from page to page: of those behind one that wasn't, none comes back, however
// whole it is.
func TestP92NoneComesBack(t *testing.T) {
	k := newKeeper(t, newDevice(t, 6), 0, 6, 1, 1)
	k.play("a", 1, 1, 1, 2, 1)
	k.restart(t, 2, 128, 0, 128, 128, 128, 128)
	if len(k.all) != 1 {
		t.Fatalf("records: %q", k.all)
	}
	k.play("b", 1, 0)
	k.restart(t, 3)
	if len(k.all) != 2 || k.all[1] != "b0" {
		t.Fatalf("records: %q", k.all)
	}
	k.play("c", 2)
	k.restart(t, 4, 0, 128)
	k.play("d", 1, 1, 0)
	k.restart(t, 5)
	if len(k.all) != 4 {
		t.Fatalf("records: %q", k.all)
	}
}

// A number counts generations in one of its bytes, the others fixed, so that no two torn marks make
// up a third one's.
type counter struct {
	base, step, n uint32
}

func anyCounter(chance *rand.Rand) *counter {
	shift := 8 * chance.Intn(4)
	return &counter{base: chance.Uint32() &^ (255 << shift), step: 1 << shift}
}

func (c *counter) next(chance *rand.Rand) uint32 {
	c.n += 1 + uint32(chance.Intn(4))
	return c.base + c.step*c.n
}

// anyOld has pages as logs of lesser generations left them, or others without a mark.
func anyOld(chance *rand.Rand, pages int, generation uint32) [][]byte {
	var old [][]byte
	for len(old) < pages {
		switch chance.Intn(4) {
		case 0:
			old = append(old, make([]byte, 128))
		case 1:
			b := pageOf(generation, uint32(len(old)+1), byte(chance.Intn(4)), full[:chance.Intn(111)])
			old = append(old, b)
		default:
			old = append(old, pagesOf(generation, uint32(len(old)+1), full[:1+chance.Intn(110)]+full+"old")...)
		}
	}
	return old[:pages]
}

// someSteps appends and flushes; other writes of the device wait too, and other flushes count.
func someSteps(t *testing.T, chance *rand.Rand, k *keeper) {
	t.Helper()
	for range chance.Intn(9) {
		switch chance.Intn(7) {
		case 0:
			k.flush()
		case 1:
			if k.d.Flush() == api.OK {
				k.sure = len(k.all)
			}
		case 2:
			k.d.Write(chance.Intn(2), make([]byte, 128))
		default:
			r := make([]byte, chance.Intn(30)+110*chance.Intn(4))
			chance.Read(r)
			k.append(string(r))
		}
	}
}

// Whatever is appended, wherever the power goes; logs are opened again while the device is up too,
// and what waited ahead goes on waiting.
func TestP92AnyCrashes(t *testing.T) {
	chance := rand.New(rand.NewSource(92))
	rounds := 20000
	if testing.Short() {
		rounds = 1000
	}
	for range rounds {
		count := 1 + chance.Intn(16)
		g := anyCounter(chance)
		least := g.base + g.step*2
		g.n = 2
		d := newDevice(t, count+3)
		put(t, d, 2, anyOld(chance, count, g.base+g.step)...)
		k := newKeeper(t, d, 2, count, least, least)
		for g.n < 240 && k.l.Room() > 0 {
			k.d.SetFuse(chance.Intn(30) - 1)
			someSteps(t, chance, k)
			if chance.Intn(4) == 0 && !k.d.Down() {
				k.open(t, g.next(chance))
				someSteps(t, chance, k)
			}
			k.restart(t, g.next(chance), anyList(chance)...)
		}
	}
}

// anyList keeps of most writes all, or nothing, so that logs grow and are torn.
func anyList(chance *rand.Rand) []int {
	list := make([]int, chance.Intn(20))
	for i := range list {
		switch chance.Intn(4) {
		case 0:
			list[i] = chance.Intn(131) - 1
		case 1:
		default:
			list[i] = 128
		}
	}
	return list
}

// Behind a Flush that was answered OK nothing that restarts do takes its records away.
func TestP92WhatIsFlushedStays(t *testing.T) {
	k := newKeeper(t, newDevice(t, 600), 0, 600, 1, 1)
	for i := range 250 {
		k.play(fmt.Sprint("r", i, "-"), 1+i%3, 0)
		for x := range 3 {
			k.restart(t, uint32(3*i+x+2), 0, 128, i%128)
			if len(k.all) != i+1 {
				t.Fatal("there are", len(k.all), "records and not", i+1)
			}
		}
	}
}
