package device_test

import (
	"bytes"
	"math"
	"slices"
	"testing"

	"rolodex/api"
	"rolodex/device"
)

func TestP71Examples(t *testing.T) {
	d := newDevice(t, 1)
	wantDone(t, d.Write(0, full(128, 1)))
	d.Restart([]int{3})
	wantPage(t, d, 0, runs(3, 1))
}

func TestP71New(t *testing.T) {
	for _, n := range []int{0, 1, 2, 3, 255, 256, 4095, 4096} {
		d := newDevice(t, n)
		wantState(t, d, n, 0, false)
		for i := range n {
			wantPage(t, d, i, make([]byte, 128))
		}
		for range 9 {
			wantDone(t, d.Flush())
		}
	}
	for _, n := range []int{-1, -2, -4096, 4097, 4098, 8192, 1 << 32, 1<<32 + 1, -1 << 32, math.MinInt, math.MinInt + 1, math.MaxInt} {
		if d, e := device.New(n); d != nil || e != api.ErrArg {
			t.Error("New of", n, ":", d, e)
		}
	}
}

func TestP71NoSuchPage(t *testing.T) {
	for _, n := range []int{0, 1, 3, 4096} {
		d := newDevice(t, n)
		for _, i := range []int{-1, -n - 1, n, n + 1, 2*n + 1, 1 << 32, -1 << 32, math.MinInt, math.MaxInt} {
			if b, e := d.Read(i); len(b) != 0 || e != api.ErrRange {
				t.Error("Read of", i, "of", n, ":", b, e)
			}
			for _, size := range []int{128, 127, 129, 0} {
				wantRefused(t, "Write of no page", d.Write(i, make([]byte, size)), api.ErrRange)
			}
		}
		wantState(t, d, n, 0, false)
	}
}

func TestP71WriteOfAnotherSize(t *testing.T) {
	d := newDevice(t, 2)
	wantDone(t, d.Write(1, full(128, 3)))
	for _, n := range []int{0, 1, 64, 127, 129, 255, 256, 384, 4096} {
		wantRefused(t, "Write of another size", d.Write(1, full(n, 7)), api.ErrArg)
	}
	wantRefused(t, "Write of nil", d.Write(0, nil), api.ErrArg)
	room := full(128, 7)
	for n := range 128 {
		wantRefused(t, "Write of less, with spare room", d.Write(1, room[:n]), api.ErrArg)
	}
	wantState(t, d, 2, 1, false)
	wantPage(t, d, 0, make([]byte, 128))
	wantPage(t, d, 1, full(128, 3))
}

func TestP71ReadIsWhatWasWrittenLast(t *testing.T) {
	d := newDevice(t, 3)
	for x := range 20 {
		wantDone(t, d.Write(1, full(128, byte(x))))
		wantPage(t, d, 1, full(128, byte(x)))
		wantDone(t, d.Write(2, full(128, byte(100+x))))
		wantPage(t, d, 1, full(128, byte(x)))
		wantState(t, d, 3, 2*x+2, false)
	}
	wantDone(t, d.Flush())
	wantState(t, d, 3, 0, false)
	for i, x := range []byte{0, 19, 119} {
		wantPage(t, d, i, full(128, x))
	}
}

func TestP71EachPageIsItsOwn(t *testing.T) {
	d := newDevice(t, 4096)
	bytesOf := func(i int) []byte { return runs(1, i%256, 126, 7, 1, i/256) }
	for i := range 4096 {
		wantDone(t, d.Write(i, bytesOf(i)))
	}
	for range 2 {
		for i := range 4096 {
			wantPage(t, d, i, bytesOf(i))
		}
		wantDone(t, d.Flush())
	}
	d.Restart(nil)
	for i := range 4096 {
		wantPage(t, d, i, bytesOf(i))
	}
}

func TestP71FlushLasts(t *testing.T) {
	d := newDevice(t, 2)
	wantDone(t, d.Write(0, full(128, 1)))
	wantDone(t, d.Write(0, full(128, 2)))
	wantDone(t, d.Flush())
	wantDone(t, d.Write(1, full(128, 3)))
	d.Restart([]int{0, 128, 128})
	wantPage(t, d, 0, full(128, 2))
	wantPage(t, d, 1, make([]byte, 128))
	wantState(t, d, 2, 0, false)
}

func TestP71RestartOfEachNumber(t *testing.T) {
	for x := -3; x <= 131; x++ {
		d := newDevice(t, 1)
		wantDone(t, d.Write(0, full(128, 5)))
		wantDone(t, d.Flush())
		wantDone(t, d.Write(0, full(128, 6)))
		d.Restart([]int{x})
		first := min(max(x, 0), 128)
		wantPage(t, d, 0, runs(first, 6, 128-first, 5))
		wantState(t, d, 1, 0, false)
	}
	for x, first := range map[int]int{math.MinInt: 0, math.MaxInt: 128, 1 << 32: 128, 1<<32 + 3: 128, -1<<32 + 3: 0, 256: 128, -128: 0} {
		d := newDevice(t, 1)
		wantDone(t, d.Write(0, full(128, 6)))
		d.Restart([]int{x})
		wantPage(t, d, 0, runs(first, 6))
	}
}

// Each write is torn for itself, in the order in which they were written, whatever is behind it.
func TestP71RestartInOrder(t *testing.T) {
	for _, c := range []struct {
		list      []int
		one, zero []byte
	}{
		{nil, full(128, 9), runs()},
		{[]int{}, full(128, 9), runs()},
		{[]int{10}, runs(10, 1, 118, 9), runs()},
		{[]int{10, 20}, runs(10, 1, 118, 9), runs(20, 2)},
		{[]int{0, 0, 30}, runs(30, 3, 98, 9), runs()},
		{[]int{30, 0, 10}, runs(10, 3, 20, 1, 98, 9), runs()},
		{[]int{10, 0, 30}, runs(30, 3, 98, 9), runs()},
		{[]int{128, 128, 127}, runs(127, 3, 1, 1), full(128, 2)},
		{[]int{50, -1, 5, 128}, runs(5, 3, 45, 1, 78, 9), full(128, 4)},
		{[]int{50, 200, 5, 7}, runs(5, 3, 45, 1, 78, 9), runs(7, 4, 121, 2)},
		{[]int{0, 0, 0, 0, 128, 128}, full(128, 9), runs()},
		{[]int{128, 128, 128, 128, 1, 2, 3}, full(128, 3), full(128, 4)},
	} {
		d := newDevice(t, 3)
		wantDone(t, d.Write(1, full(128, 9)))
		wantDone(t, d.Flush())
		for x, i := range []int{1, 0, 1, 0} {
			wantDone(t, d.Write(i, full(128, byte(x+1))))
		}
		list := slices.Clone(c.list)
		d.Restart(list)
		for range 2 {
			wantPage(t, d, 0, c.zero)
			wantPage(t, d, 1, c.one)
			wantPage(t, d, 2, runs())
			wantState(t, d, 3, 0, false)
			d.Restart(slices.Repeat([]int{128}, 9))
		}
		if !slices.Equal(list, c.list) {
			t.Error("a list is changed:", list)
		}
	}
}

func TestP71RestartLasts(t *testing.T) {
	d := newDevice(t, 1)
	wantDone(t, d.Write(0, full(128, 1)))
	d.Restart([]int{100})
	wantDone(t, d.Write(0, full(128, 2)))
	d.SetFuse(0)
	wantRefused(t, "Flush", d.Flush(), api.ErrLost)
	d.Restart([]int{50})
	wantDone(t, d.Write(0, full(128, 3)))
	d.Restart(nil)
	wantPage(t, d, 0, runs(50, 2, 50, 1))
}

// operate does the x-th of many operations: each third one is a flush.
func operate(d *device.Device, x int) api.Errno {
	if x%3 == 2 {
		return d.Flush()
	}
	return d.Write(x%d.Pages(), full(128, byte(x)))
}

// refuseAll asks for what is no operation, as an error of its own refuses it, or as nothing does.
func refuseAll(t *testing.T, d *device.Device) {
	t.Helper()
	for range 3 {
		wantRefused(t, "Write of no page", d.Write(d.Pages(), full(128, 7)), api.ErrRange)
		wantRefused(t, "Write of no page", d.Write(-1, nil), api.ErrRange)
		wantRefused(t, "Write of another size", d.Write(0, full(127, 7)), api.ErrArg)
		if _, e := d.Read(-1); e != api.ErrRange {
			t.Error("Read of no page:", e)
		}
		if _, e := d.Read(0); e != api.OK {
			t.Error("Read:", e)
		}
		wantState(t, d, d.Pages(), d.Waits(), false)
	}
}

func TestP71FuseLetsSoManyBeDone(t *testing.T) {
	for n := range 12 {
		for from := range 3 {
			d := newDevice(t, 2)
			for x := range 5 {
				wantDone(t, operate(d, x))
			}
			d.SetFuse(n)
			for x := from; x < from+n; x++ {
				refuseAll(t, d)
				wantDone(t, operate(d, x))
			}
			refuseAll(t, d)
			waits := d.Waits()
			wantRefused(t, "one operation too many", operate(d, from+n), api.ErrLost)
			wantState(t, d, 2, waits, true)
			wantLost(t, d)
			wantState(t, d, 2, waits, true)
		}
	}
}

// The operation with which the power goes isn't done, and what waits ahead of it goes on waiting.
func TestP71WithTheNextOneDown(t *testing.T) {
	for _, c := range []struct {
		last  func(d *device.Device) api.Errno
		list  []int
		first int
	}{
		{(*device.Device).Flush, nil, 0},
		{(*device.Device).Flush, []int{9, 9}, 9},
		{func(d *device.Device) api.Errno { return d.Write(0, full(128, 2)) }, []int{128, 128}, 128},
		{func(d *device.Device) api.Errno { return d.Write(0, full(128, 2)) }, []int{9, 128}, 9},
	} {
		d := newDevice(t, 2)
		d.SetFuse(1)
		wantDone(t, d.Write(0, full(128, 1)))
		wantRefused(t, "one operation too many", c.last(d), api.ErrLost)
		wantState(t, d, 2, 1, true)
		wantLost(t, d)
		d.Restart(c.list)
		wantState(t, d, 2, 0, false)
		wantPage(t, d, 0, runs(c.first, 1))
	}
}

// wantNoFuse does many operations: none is one too many.
func wantNoFuse(t *testing.T, d *device.Device) {
	t.Helper()
	for x := range 50 {
		wantDone(t, operate(d, x))
	}
	wantState(t, d, d.Pages(), d.Waits(), false)
}

func TestP71NoFuse(t *testing.T) {
	for _, n := range []int{-1, -2, math.MinInt, math.MinInt + 1, math.MaxInt, 1 << 32, -1 << 32} {
		d := newDevice(t, 2)
		wantNoFuse(t, d)
		d.SetFuse(n)
		wantNoFuse(t, d)
		d.SetFuse(1)
		wantDone(t, operate(d, 0))
		d.SetFuse(n)
		wantNoFuse(t, d)
	}
}

// The fuse is the one that was set last, whatever was left of the one ahead.
func TestP71AnotherFuse(t *testing.T) {
	for _, c := range [][2]int{{5, 2}, {2, 5}, {0, 3}, {3, 0}, {4, 4}} {
		d := newDevice(t, 2)
		d.SetFuse(c[0])
		if c[0] > 0 {
			wantDone(t, operate(d, 0))
		}
		d.SetFuse(c[1])
		for x := range c[1] {
			wantDone(t, operate(d, x))
		}
		wantRefused(t, "one operation too many", operate(d, 0), api.ErrLost)
		wantLost(t, d)
	}
}

// Nothing but a restart gets a device up, and behind that there is no fuse, whatever was set.
func TestP71UpByARestart(t *testing.T) {
	for _, n := range []int{-1, 0, 1, 9, math.MinInt, math.MaxInt} {
		d := newDevice(t, 2)
		d.SetFuse(0)
		wantRefused(t, "one operation too many", d.Flush(), api.ErrLost)
		d.SetFuse(n)
		wantState(t, d, 2, 0, true)
		wantLost(t, d)
		d.Restart(nil)
		wantState(t, d, 2, 0, false)
		wantNoFuse(t, d)
		d.SetFuse(max(n, 0))
		d.Restart(nil)
		wantNoFuse(t, d)
	}
}

func TestP71NilDevice(t *testing.T) {
	var d *device.Device
	for range 2 {
		wantState(t, d, 0, 0, true)
		wantLost(t, d)
		for _, n := range []int{-1, 0, 1, math.MinInt, math.MaxInt} {
			d.SetFuse(n)
			d.Restart([]int{n, n})
		}
		d.Restart(nil)
	}
}

// What New didn't make has no pages, as one that New made of none.
func TestP71NoPages(t *testing.T) {
	for _, d := range []*device.Device{new(device.Device), newDevice(t, 0)} {
		for range 2 {
			wantState(t, d, 0, 0, false)
			if b, e := d.Read(0); len(b) != 0 || e != api.ErrRange {
				t.Error("Read:", b, e)
			}
			wantRefused(t, "Write", d.Write(0, full(128, 1)), api.ErrRange)
			wantDone(t, d.Flush())
			d.SetFuse(1)
			wantDone(t, d.Flush())
			wantRefused(t, "one operation too many", d.Flush(), api.ErrLost)
			wantState(t, d, 0, 0, true)
			wantLost(t, d)
			d.Restart([]int{1, 2})
		}
	}
}

func TestP71AnswersNewMemory(t *testing.T) {
	d := newDevice(t, 3)
	for i := range 3 {
		wantDone(t, d.Write(i, full(128, byte(i+1))))
	}
	for range 2 {
		b, _ := d.Read(1)
		copied, _ := d.Read(1)
		clear(b[:cap(b)])
		for i := range 3 {
			wantPage(t, d, i, full(128, byte(i+1)))
		}
		if !bytes.Equal(copied, full(128, 2)) {
			t.Error("two answers share memory")
		}
		wantDone(t, d.Flush())
	}
	b, _ := d.Read(0)
	wantDone(t, d.Write(0, full(128, 9)))
	if !bytes.Equal(b, full(128, 1)) {
		t.Error("an answer changes with its page")
	}
}

func TestP71KeepsNothingHandedIn(t *testing.T) {
	d, room := newDevice(t, 2), full(300, 5)
	wantDone(t, d.Write(0, room[10:138]))
	if !bytes.Equal(room, full(300, 5)) {
		t.Error("what is written is changed")
	}
	clear(room)
	wantPage(t, d, 0, full(128, 5))
	wantDone(t, d.Write(0, full(128, 6)))
	d.Restart([]int{128})
	wantPage(t, d, 0, full(128, 5))
	wantDone(t, d.Write(1, room[:128]))
	wantDone(t, d.Flush())
	copy(room, full(300, 8))
	wantPage(t, d, 1, full(128, 0))
	d.Restart([]int{1, 2, 3})
	wantPage(t, d, 0, full(128, 5))
	wantPage(t, d, 1, full(128, 0))
	if !bytes.Equal(room, full(300, 8)) {
		t.Error("what was written is changed")
	}
}

func TestP71DevicesAreApart(t *testing.T) {
	one, two := newDevice(t, 2), newDevice(t, 2)
	wantDone(t, one.Write(0, full(128, 1)))
	wantDone(t, two.Write(1, full(128, 2)))
	one.SetFuse(0)
	wantRefused(t, "one operation too many", one.Flush(), api.ErrLost)
	wantState(t, two, 2, 1, false)
	wantDone(t, two.Flush())
	one.Restart([]int{4, 128})
	wantPage(t, one, 0, runs(4, 1))
	wantPage(t, one, 1, runs())
	wantPage(t, two, 0, runs())
	wantPage(t, two, 1, full(128, 2))
}
