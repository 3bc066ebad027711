package slot_test

import (
	"fmt"
	"math/rand"
	"slices"
	"testing"

	"rolodex/api"
	"rolodex/device"
	"rolodex/slot"
)

// A keeper saves, and knows what a restart may leave: the value that was saved last, and those
// begun since.
type keeper struct {
	d      *device.Device
	at     int
	may    []string
	serial uint64
}

func newKeeper(t *testing.T, pages, at int) *keeper {
	return &keeper{d: newDevice(t, pages), at: at, may: []string{""}}
}

func (k *keeper) save(t *testing.T, value string) api.Errno {
	t.Helper()
	n, e := slot.Save(k.d, k.at, []byte(value))
	if e != api.OK {
		k.may = append(k.may, value)
		return e
	}
	if n <= k.serial {
		t.Fatal("the serial is", n, "behind", k.serial)
	}
	k.may, k.serial = []string{value}, n
	return e
}

// restart holds what is left to what may be. From then on the value is what it is: the next restart
// doesn't bring another one back.
func (k *keeper) restart(t *testing.T, list ...int) string {
	t.Helper()
	k.d.Restart(list)
	n, v, e := slot.Load(k.d, k.at)
	if e != api.OK || !slices.Contains(k.may, string(v)) || n < k.serial {
		t.Fatalf("Load: %v, %q, %v of %q; the serial was %v", n, v, e, k.may, k.serial)
	}
	k.may, k.serial = []string{string(v)}, n
	return string(v)
}

// One Save, at each fuse, each number of bytes that is kept, and beside serials whose bytes turn.
func TestP82OneCrash(t *testing.T) {
	for _, saved := range []int{0, 1, 2, 3, 253, 254, 255, 256, 257, 65533, 65534, 65535, 65536} {
		if testing.Short() && saved > 1000 {
			continue
		}
		k := newKeeper(t, 2, 0)
		for i := range saved {
			k.save(t, fmt.Sprint(i))
		}
		pages := [2][]byte{}
		for i := range pages {
			pages[i], _ = k.d.Read(i)
		}
		for fuse := range 3 {
			for keep := range 130 {
				k := &keeper{d: pagesOf(t, pages[:]...), may: k.may, serial: uint64(saved)}
				k.d.SetFuse(fuse)
				e := k.save(t, "new")
				if (e == api.OK) != (fuse == 2) {
					t.Fatal("Save with a fuse of", fuse, ":", e)
				}
				left := k.restart(t, keep)
				if fuse == 0 && left == "new" || fuse == 1 && keep >= 128 && left != "new" {
					t.Fatal("fuse", fuse, "keep", keep, ":", left)
				}
			}
		}
	}
}

// Two Saves, one behind the other, each of which the power ends: at each pair of numbers of bytes
// that are kept.
func TestP82TwoCrashes(t *testing.T) {
	for _, saved := range []int{0, 1, 2, 254, 255, 256} {
		if testing.Short() && saved > 2 {
			continue
		}
		k := newKeeper(t, 2, 0)
		for i := range saved {
			k.save(t, fmt.Sprint(i))
		}
		var pages [2][]byte
		for i := range pages {
			pages[i], _ = k.d.Read(i)
		}
		for first := range 129 {
			for second := range 129 {
				k := &keeper{d: pagesOf(t, pages[:]...), may: k.may, serial: uint64(saved)}
				k.d.SetFuse(1)
				k.save(t, "one")
				k.restart(t, first)
				k.d.SetFuse(1)
				k.save(t, "another")
				k.restart(t, second)
				if e := k.save(t, "whole"); e != api.OK {
					t.Fatal(e)
				}
				k.restart(t)
			}
		}
	}
}

// Whatever is saved, and wherever the power goes; another slot and another page of the device have
// writes that wait too.
func TestP82AnyCrashes(t *testing.T) {
	chance := rand.New(rand.NewSource(82))
	for range 400 {
		k := newKeeper(t, 8, chance.Intn(3))
		other := &keeper{d: k.d, at: k.at + 2, may: []string{""}}
		for range 60 {
			k.d.SetFuse(chance.Intn(12) - 1)
			for range chance.Intn(8) {
				switch chance.Intn(5) {
				case 0:
					other.save(t, anyValue(chance))
				case 1:
					k.d.Write(6+chance.Intn(2), make([]byte, 128))
				default:
					k.save(t, anyValue(chance))
				}
				wantLikeModel(t, k)
				wantLikeModel(t, other)
			}
			list := make([]int, chance.Intn(6))
			for i := range list {
				list[i] = chance.Intn(131) - 1
			}
			k.restart(t, list...)
			other.restart(t)
		}
	}
}

// Behind a Save that was answered OK nothing that restarts do takes its value away.
func TestP82WhatIsSavedStays(t *testing.T) {
	k := newKeeper(t, 2, 0)
	for i := range 300 {
		if e := k.save(t, fmt.Sprint(i)); e != api.OK {
			t.Fatal(e)
		}
		for range 3 {
			if v := k.restart(t, 0, 128, i%128); v != fmt.Sprint(i) {
				t.Fatal("the value is", v, "and not", i)
			}
		}
	}
}

func anyValue(chance *rand.Rand) string {
	b := make([]byte, chance.Intn(111))
	chance.Read(b)
	return string(b)
}

// wantLikeModel holds Load to the pages' bytes, while the device is up.
func wantLikeModel(t *testing.T, k *keeper) {
	t.Helper()
	one, e := k.d.Read(k.at)
	if e != api.OK {
		wantNoLoad(t, k.d, k.at, e)
		return
	}
	two, _ := k.d.Read(k.at + 1)
	serial, value := modelLoad(one, two)
	wantLoad(t, k.d, k.at, serial, value)
}
