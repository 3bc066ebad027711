package device_test

import (
	"bytes"
	"math"
	"math/rand"
	"slices"
	"testing"

	"rolodex/api"
	"rolodex/device"
)

// A model is a device as the chapter has it: what lasts, what waits, and a fuse, below 0 if there
// is none.
type model struct {
	lasts [][]byte
	waits []waiting
	fuse  int
	down  bool
}

type waiting struct {
	at int
	b  []byte
}

func newModel(pages int) *model {
	m := &model{fuse: -1}
	for range pages {
		m.lasts = append(m.lasts, make([]byte, 128))
	}
	return m
}

func (m *model) read(i int) ([]byte, api.Errno) {
	if m.down {
		return nil, api.ErrLost
	}
	if i < 0 || i >= len(m.lasts) {
		return nil, api.ErrRange
	}
	b := m.lasts[i]
	for _, w := range m.waits {
		if w.at == i {
			b = w.b
		}
	}
	return b, api.OK
}

func (m *model) operate(do func()) api.Errno {
	if m.fuse == 0 {
		m.down = true
		return api.ErrLost
	}
	if m.fuse > 0 {
		m.fuse--
	}
	do()
	return api.OK
}

func (m *model) write(i int, b []byte) api.Errno {
	if _, e := m.read(i); e != api.OK {
		return e
	}
	if len(b) != 128 {
		return api.ErrArg
	}
	return m.operate(func() { m.waits = append(m.waits, waiting{i, slices.Clone(b)}) })
}

func (m *model) flush() api.Errno {
	if m.down {
		return api.ErrLost
	}
	return m.operate(func() {
		for _, w := range m.waits {
			m.lasts[w.at] = w.b
		}
		m.waits = nil
	})
}

func (m *model) restart(list []int) {
	for i, w := range m.waits {
		for at := range 128 {
			if i < len(list) && at < list[i] {
				m.lasts[w.at][at] = w.b[at]
			}
		}
	}
	*m = model{lasts: m.lasts, fuse: -1}
}

// wantLike holds all that the device tells to the model.
func wantLike(t *testing.T, d *device.Device, m *model) {
	t.Helper()
	if d.Pages() != len(m.lasts) || d.Down() != m.down || d.Waits() != len(m.waits) {
		t.Fatal("pages, down, waits:", d.Pages(), d.Down(), d.Waits(), "of a model with", len(m.lasts), m.down, len(m.waits))
	}
	for i := -1; i <= len(m.lasts); i++ {
		want, f := m.read(i)
		if b, e := d.Read(i); e != f || !bytes.Equal(b, want) {
			t.Fatal("page", i, ":", b, e, "want", want, f)
		}
	}
}

// A step is done on both; it answers both errors.
type step func(d *device.Device, m *model) (api.Errno, api.Errno)

func writeStep(i int, b []byte) step {
	return func(d *device.Device, m *model) (api.Errno, api.Errno) { return d.Write(i, b), m.write(i, b) }
}

func flushStep(d *device.Device, m *model) (api.Errno, api.Errno) { return d.Flush(), m.flush() }

func fuseStep(n int) step {
	return func(d *device.Device, m *model) (api.Errno, api.Errno) {
		d.SetFuse(n)
		m.fuse = max(n, -1)
		return api.OK, api.OK
	}
}

func restartStep(list ...int) step {
	return func(d *device.Device, m *model) (api.Errno, api.Errno) {
		d.Restart(list)
		m.restart(list)
		return api.OK, api.OK
	}
}

// run does the steps, and holds both together behind each of them.
func run(t *testing.T, pages int, steps []step) (*device.Device, *model) {
	t.Helper()
	d, m := newDevice(t, pages), newModel(pages)
	for i, s := range steps {
		if e, f := s(d, m); e != f {
			t.Fatal("step", i, "of", len(steps), ":", e, "want", f)
		}
		wantLike(t, d, m)
	}
	return d, m
}

func anyList(chance *rand.Rand) []int {
	list := make([]int, chance.Intn(8))
	for i := range list {
		list[i] = chance.Intn(140) - 6
		if chance.Intn(4) == 0 {
			list[i] = []int{0, 128, math.MinInt, math.MaxInt, 1 << 32, -1 << 32, 256, 129}[chance.Intn(8)]
		}
	}
	return list
}

func anyStep(chance *rand.Rand, pages int) step {
	switch chance.Intn(12) {
	case 0:
		return flushStep
	case 1:
		return fuseStep(chance.Intn(9) - 1)
	case 2:
		return restartStep(anyList(chance)...)
	case 3:
		return writeStep(chance.Intn(pages+3)-1, make([]byte, 120+chance.Intn(16)))
	}
	b := make([]byte, 128)
	chance.Read(b)
	return writeStep(chance.Intn(pages), b)
}

func newDevice(t *testing.T, pages int) *device.Device {
	t.Helper()
	d, e := device.New(pages)
	if e != api.OK || d == nil {
		t.Fatal("New of", pages, ":", e)
	}
	return d
}

// full has n bytes that are all x.
func full(n int, x byte) []byte {
	return bytes.Repeat([]byte{x}, n)
}

// runs has the bytes of a page: so many of one kind, and so many of the next one; noughts behind.
func runs(pairs ...int) []byte {
	var b []byte
	for i := 0; i < len(pairs); i += 2 {
		b = append(b, full(pairs[i], byte(pairs[i+1]))...)
	}
	return append(b, make([]byte, 128-len(b))...)
}

func wantPage(t *testing.T, d *device.Device, i int, want []byte) {
	t.Helper()
	if b, e := d.Read(i); e != api.OK || !bytes.Equal(b, want) {
		t.Error("page", i, ":", b, e, "want", want)
	}
}

func wantDone(t *testing.T, e api.Errno) {
	t.Helper()
	if e != api.OK {
		t.Error("not done:", e)
	}
}

func wantRefused(t *testing.T, what string, e, want api.Errno) {
	t.Helper()
	if e != want {
		t.Error(what, ":", e, "want", want)
	}
}

func wantState(t *testing.T, d *device.Device, pages, waits int, down bool) {
	t.Helper()
	if d.Pages() != pages || d.Waits() != waits || d.Down() != down {
		t.Error("pages, waits, down:", d.Pages(), d.Waits(), d.Down(), "want", pages, waits, down)
	}
}

// wantLost holds that a device that is down answers ErrLost to all, whatever it is asked.
func wantLost(t *testing.T, d *device.Device) {
	t.Helper()
	for _, i := range []int{0, 1, -1, d.Pages(), math.MinInt, math.MaxInt} {
		if b, e := d.Read(i); len(b) != 0 || e != api.ErrLost {
			t.Error("Read of", i, ":", b, e)
		}
		for _, n := range []int{128, 0, 127} {
			wantRefused(t, "Write", d.Write(i, full(n, 9)), api.ErrLost)
		}
	}
	wantRefused(t, "Flush", d.Flush(), api.ErrLost)
}
