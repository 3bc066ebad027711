package device_test

import (
	"bytes"
	"math/rand"
	"testing"

	"rolodex/api"
)

// Whatever is done, in any order: the device answers as the chapter's words have it.
func TestP71AsTheChapterHasIt(t *testing.T) {
	chance := rand.New(rand.NewSource(71))
	for range 600 {
		pages := 1 + chance.Intn(4)
		steps := make([]step, chance.Intn(60))
		for i := range steps {
			steps[i] = anyStep(chance, pages)
		}
		run(t, pages, steps)
	}
}

// All orders of a few steps, so that none of the short ones is left to chance.
func TestP71AllOrders(t *testing.T) {
	kinds := []step{
		writeStep(0, full(128, 1)),
		writeStep(0, full(128, 2)),
		writeStep(1, full(128, 3)),
		writeStep(1, full(1, 4)),
		flushStep,
		fuseStep(1),
		fuseStep(-1),
		restartStep(),
		restartStep(0, 7, 128),
	}
	steps := make([]step, 5)
	for n := range 9 * 9 * 9 * 9 * 9 {
		for i := range steps {
			steps[i] = kinds[n%9]
			n /= 9
		}
		run(t, 2, steps)
	}
}

// A page to which no write waits has behind a restart what was read of it ahead; if the device was
// down, what the model has there.
func TestP72WhatDoesNotWaitStays(t *testing.T) {
	chance := rand.New(rand.NewSource(72))
	for range 2000 {
		pages := 2 + chance.Intn(6)
		steps := make([]step, chance.Intn(20))
		for i := range steps {
			steps[i] = anyStep(chance, pages)
		}
		d, m := run(t, pages, steps)
		before := map[int][]byte{}
		for i := range pages {
			before[i], _ = d.Read(i)
			if m.down {
				before[i] = m.lasts[i]
			}
		}
		for _, w := range m.waits {
			delete(before, w.at)
		}
		d.Restart(anyList(chance))
		for i, want := range before {
			if b, e := d.Read(i); e != api.OK || !bytes.Equal(b, want) {
				t.Fatal("page", i, "isn't as it was:", b, e, "want", want)
			}
		}
	}
}

// What was flushed is there behind any restart, and again behind the next one.
func TestP72WhatLastsStays(t *testing.T) {
	d := newDevice(t, 6)
	for i := range 6 {
		wantDone(t, d.Write(i, full(128, byte(i+1))))
	}
	wantDone(t, d.Flush())
	for _, list := range [][]int{nil, {128, 128, 128}, {1, 2, 3, 4, 5, 6, 7}} {
		wantDone(t, d.Write(3, full(128, 9)))
		wantDone(t, d.Write(3, full(128, 4)))
		d.SetFuse(0)
		wantRefused(t, "Flush", d.Flush(), api.ErrLost)
		d.Restart(list)
		for _, i := range []int{0, 1, 2, 4, 5} {
			wantPage(t, d, i, full(128, byte(i+1)))
		}
		wantState(t, d, 6, 0, false)
	}
}
