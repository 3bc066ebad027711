package vault_test

import (
	"fmt"
	"math/rand"
	"slices"
	"strings"
	"testing"

	"rolodex/api"
	"rolodex/device"
	"rolodex/vault"
)

// A keeper uses a vault, and knows what an opening may find: the first ones of all records, and no
// fewer than are sure; or those of a Replace within which the power went.
type keeper struct {
	d       *device.Device
	v       *vault.Vault
	all     []string
	sure    int
	turning bool
	others  []string
}

func newKeeper(t *testing.T, pages int) *keeper {
	t.Helper()
	k := &keeper{d: newDevice(t, pages)}
	k.mustOpen(t)
	return k
}

// open holds what is there to what may be. What is found lasts, as the slot was saved behind it.
func (k *keeper) open(t *testing.T) bool {
	t.Helper()
	v, x, e := vault.Open(k.d)
	if e == api.ErrLost {
		return false
	}
	want(t, "Open", e, api.OK)
	var found []string
	for _, r := range x {
		found = append(found, string(r))
	}
	first := len(found) >= k.sure && len(found) <= len(k.all) && slices.Equal(found, k.all[:len(found)])
	if !first && !(k.turning && slices.Equal(found, k.others)) {
		t.Fatalf("records: %q; the first %v or more of %q, or (%v) %q", found, k.sure, k.all, k.turning, k.others)
	}
	*k = keeper{d: k.d, v: v, all: found, sure: len(found)}
	return true
}

func (k *keeper) mustOpen(t *testing.T) {
	t.Helper()
	if !k.open(t) {
		t.Fatal("the device is down")
	}
}

// restart lets the power go and opens the vault.
func (k *keeper) restart(t *testing.T, list ...int) {
	t.Helper()
	k.d.Restart(list)
	k.mustOpen(t)
}

func (k *keeper) append(record string) api.Errno {
	e := k.v.Append([]byte(record))
	if e == api.OK {
		k.all = append(slices.Clone(k.all), record)
	}
	return e
}

func (k *keeper) flush() api.Errno {
	e := k.v.Flush()
	if e == api.OK {
		k.sure = len(k.all)
	}
	return e
}

func (k *keeper) replace(records []string) api.Errno {
	wasDown := k.d.Down()
	e := k.v.Replace(listOf(records))
	switch {
	case e == api.OK:
		k.all, k.sure = records, len(records)
	case k.d.Down() && !wasDown:
		k.turning, k.others = true, records
	}
	return e
}

// A step is a record's number of parts, or 0 of a flush, or a Replace by records of the parts that
// are given.
type step struct {
	parts int
	list  []int
}

func add(parts int) step          { return step{parts: parts} }
func turn(list ...int) step       { return step{parts: -1, list: list} }
func long(n int, s string) string { return strings.Repeat(full, n-1) + s }

// play does some steps; the first error ends it.
func (k *keeper) play(name string, steps ...step) {
	for i, s := range steps {
		e := api.OK
		switch s.parts {
		case -1:
			var records []string
			for j, n := range s.list {
				records = append(records, long(n, fmt.Sprint(name, i, "-", j)))
			}
			e = k.replace(records)
		case 0:
			e = k.flush()
		default:
			e = k.append(long(s.parts, fmt.Sprint(name, i)))
		}
		if e != api.OK {
			return
		}
	}
}

var manySteps = []step{
	add(1), add(2), add(0), add(1), turn(1, 3, 1), add(2), add(0), add(1), turn(2), turn(), add(1), turn(1, 1), add(1), add(0), add(1),
}

// operations tells how many a few steps are.
func operations(t *testing.T, steps []step) int {
	t.Helper()
	for n := 0; ; n++ {
		k := newKeeper(t, 18)
		k.d.SetFuse(n)
		k.play("a", steps...)
		if !k.d.Down() {
			return n
		}
	}
}

// One power cut: at each operation, each write that waits kept by each number of bytes, the others
// by none, or whole.
func TestP103OneCrash(t *testing.T) {
	step := 1
	if testing.Short() {
		step = 9
	}
	for fuse := range operations(t, manySteps) + 1 {
		for torn := range 6 {
			for keep := 0; keep < 129; keep += step {
				for others := range 2 {
					k := newKeeper(t, 18)
					k.d.SetFuse(fuse)
					k.play("a", manySteps...)
					list := slices.Repeat([]int{others * 128}, 8)
					list[torn] = keep
					k.restart(t, list...)
					k.play("b", add(1), add(0))
					k.restart(t)
					k.play("c", turn(1), add(1))
					k.restart(t)
				}
			}
		}
	}
}

// What is flushed is there behind a restart, and behind a Replace that was answered OK its records
// are, which take the others away for good.
func TestP103WhatLasts(t *testing.T) {
	for n := range 40 {
		k := newKeeper(t, 2+2*50)
		for i := range n {
			k.play(fmt.Sprint(i, "-"), add(1))
		}
		want(t, "Flush", k.flush(), api.OK)
		k.restart(t)
		if len(k.all) != n {
			t.Fatal("there are", len(k.all), "records and not", n)
		}
		want(t, "Replace", k.replace([]string{"x", long(3, "y")}), api.OK)
		for range 3 {
			k.restart(t, 128, 0, n)
			if len(k.all) != 2 {
				t.Fatal("there are", len(k.all), "records and not 2")
			}
		}
		k.play("z", add(1))
		k.restart(t)
		k.play("z", add(1), add(0))
		k.restart(t)
		if len(k.all) != 3 {
			t.Fatal("there are", len(k.all), "records and not 3")
		}
	}
}

// edges are numbers of kept bytes about the fields of a slot's page and of a log's.
func edges() []int {
	return []int{0, 3, 4, 7, 8, 10, 14, 19, 60, 120, 123, 124, 127, 128}
}

// The power goes while the vault is opened, behind a Replace in which it went.
func TestP103OpeningsCrash(t *testing.T) {
	for fuse := range 13 {
		for _, one := range edges() {
			for opening := range 3 {
				for _, two := range edges() {
					k := newKeeper(t, 12)
					k.play("a", add(1), turn(2, 1), add(1), add(0))
					k.d.SetFuse(fuse)
					k.play("b", add(1), turn(1, 2))
					k.d.Restart([]int{one, one, one, one, one})
					k.d.SetFuse(opening)
					if k.open(t) != (opening == 2) {
						t.Fatal("Open with a fuse of", opening)
					}
					k.restart(t, two)
					k.play("c", add(1), turn(1), add(1), add(0))
					k.restart(t)
				}
			}
		}
	}
}

// Two Replaces, in each of which the power goes, and one in which it doesn't: of the other area's
// pages none comes back.
func TestP103TwoReplacesCrash(t *testing.T) {
	few := []int{0, 8, 60, 123, 128}
	for one := range 9 {
		for two := range 9 {
			for n := range 5 * 5 * 5 * 5 {
				if testing.Short() && n%7 != 0 {
					continue
				}
				k := newKeeper(t, 10)
				k.play("a", add(1), add(0))
				for i, fuse := range []int{one, two} {
					k.d.SetFuse(fuse)
					k.play(fmt.Sprint("b", i), turn([][]int{{1, 2}, {1, 1}}[i]...))
					k.restart(t, few[n%5], few[n/5%5], few[n/5%5])
					n /= 25
				}
				k.play("c", turn(1), add(1), add(0))
				k.restart(t)
				k.play("d", turn(1))
				k.restart(t)
				if len(k.all) != 1 {
					t.Fatalf("records: %q", k.all)
				}
			}
		}
	}
}

// someSteps appends, flushes and replaces; refused calls change nothing.
func someSteps(t *testing.T, chance *rand.Rand, k *keeper) {
	t.Helper()
	for range chance.Intn(9) {
		switch chance.Intn(8) {
		case 0, 1:
			k.flush()
		case 2:
			k.replace(anyRecords(chance, k.v.Space()))
		case 3:
			if e := k.replace([]string{"a", long(60, "b")}); e == api.OK {
				t.Fatal("a record that is too long is taken")
			}
		default:
			k.append(anyRecord(chance))
		}
	}
}

// Whatever is appended and replaced, wherever the power goes, in openings too. The generations
// differ in one byte only, so that no two torn marks make up a third one's (the form of layer 9's
// pages lets those of more bytes do that).
func TestP103AnyCrashes(t *testing.T) {
	chance := rand.New(rand.NewSource(103))
	rounds := 4000
	if testing.Short() {
		rounds = 300
	}
	for range rounds {
		base := chance.Uint32() &^ 255
		if base == 0 {
			base = 256
		}
		k := &keeper{d: deviceOf(t, 4+chance.Intn(30), 1+uint64(chance.Intn(600)), valueOf(byte(chance.Intn(2)), base, base))}
		k.mustOpen(t)
		for range 20 {
			k.d.SetFuse(chance.Intn(40) - 1)
			someSteps(t, chance, k)
			if chance.Intn(4) == 0 && k.open(t) {
				someSteps(t, chance, k)
			}
			k.d.Restart(anyList(chance))
			for range chance.Intn(3) {
				k.d.SetFuse(chance.Intn(2))
				k.open(t)
				k.d.Restart(anyList(chance))
			}
			k.mustOpen(t)
		}
	}
}

// Many generations, of two bytes: pages are kept up to their second mark, or whole.
func TestP103ManyGenerations(t *testing.T) {
	chance := rand.New(rand.NewSource(1030))
	k := newKeeper(t, 26)
	for range 3000 {
		k.d.SetFuse(chance.Intn(30) - 1)
		someSteps(t, chance, k)
		list := anyList(chance)
		for i, n := range list {
			if n > 120 {
				list[i] = 128
			}
		}
		k.restart(t, list...)
	}
}
