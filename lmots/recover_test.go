package lmots_test

import (
	"math/rand"
	"slices"
	"testing"

	"rolodex/api"
	"rolodex/lmots"
)

func wantNone(t *testing.T, g given, signature []byte) {
	t.Helper()
	if h, ok := lmots.Recover(g.id, g.q, g.message, signature); ok || h != (api.Hash{}) {
		t.Errorf("recovered of %d bytes, %x: %x, %t", len(signature), signature[:min(len(signature), 4)], h, ok)
	}
}

func wantLed(t *testing.T, g given, signature []byte, want api.Hash) {
	t.Helper()
	if h, ok := lmots.Recover(g.id, g.q, g.message, signature); !ok || h != want {
		t.Errorf("led to %x, %t, not to %x", h, ok, want)
	}
}

// form answers bytes that aren't made by a key, but have a kind's number and size.
func form(chance *rand.Rand, kind int) []byte {
	s := make([]byte, 36+32*kinds[kind][1])
	chance.Read(s)
	copy(s, []byte{0, 0, 0, byte(kind)})
	return s
}

// Whoever made the bytes: their chains are gone on to their ends.
func TestP41RecoverOfWhatHasTheForm(t *testing.T) {
	chance := rand.New(rand.NewSource(43))
	for kind := range kinds {
		for range 8 {
			g, s := anyGiven(chance), form(chance, kind)
			wantLed(t, g, s, led(kind, g, s))
		}
		noughts := make([]byte, lmots.Size(kind))
		noughts[3] = byte(kind)
		wantLed(t, given{}, noughts, led(kind, given{}, noughts))
	}
}

func TestP41RecoverOfAnotherSize(t *testing.T) {
	chance := rand.New(rand.NewSource(44))
	for kind := range kinds {
		g, long := anyGiven(chance), form(chance, kind)
		size := len(long)
		long = append(long, make([]byte, 9000)...)
		sizes := []int{0, 1, 2, 3, 4, 5, 35, 36, 37, 68, size / 2, size - 33, size - 32, size - 31, size - 4, size - 1, size + 1, size + 4, size + 31, size + 32, size + 33, 2 * size, 8516, 4292, 2180, 1124}
		for _, n := range sizes {
			if n != size && n <= len(long) {
				wantNone(t, g, long[:n])
			}
		}
	}
	wantNone(t, given{}, nil)
}

// Each of the kind's four bytes counts, and a size belongs to its own kind alone.
func TestP41RecoverOfAnotherKind(t *testing.T) {
	chance := rand.New(rand.NewSource(45))
	for kind := range kinds {
		g, s := anyGiven(chance), form(chance, kind)
		for at := range 4 {
			for b := range 256 {
				other := slices.Clone(s)
				other[at] = byte(b)
				if other[at] != s[at] {
					wantNone(t, g, other)
				}
			}
		}
		for _, front := range [][]byte{{255, 255, 255, 255}, {128, 0, 0, byte(kind)}, {byte(kind), 0, 0, 0}, {0, 0, byte(kind), byte(kind)}} {
			wantNone(t, g, append(front, s[4:]...))
		}
	}
}

// Bytes that would be a kind's, if there were one of that number, are none.
func TestP41RecoverOfNoKind(t *testing.T) {
	for kind := range 256 {
		for _, n := range []int{4, 36, 68, 36 + 32*256, 1124, 2180, 4292, 8516} {
			s := make([]byte, n)
			s[3] = byte(kind)
			if n != lmots.Size(kind) {
				wantNone(t, given{}, s)
			}
		}
	}
}
