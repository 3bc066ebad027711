package prefix_test

import (
	"fmt"
	"math"
	"math/rand"
	"strings"
	"testing"

	"rolodex/api"
	"rolodex/prefix"
)

// digits answers the bits of k, one character each, from bit 0 on.
func digits(k api.Hash) string {
	var s strings.Builder
	for _, b := range k {
		fmt.Fprintf(&s, "%08b", b)
	}
	return s.String()
}

// key answers the key that begins with these digits, and has noughts behind them.
func key(s string) api.Hash {
	var k api.Hash
	for i, c := range s {
		if c == '1' {
			k[i/8] |= 128 >> (i % 8)
		}
	}
	return k
}

// cut answers the prefix of these digits.
func cut(s string) api.Prefix {
	return api.Prefix{Len: len(s), Bits: key(s)}
}

func turned(k api.Hash, i int) api.Hash {
	k[i/8] ^= 128 >> (i % 8)
	return k
}

func anyKey(chance *rand.Rand) api.Hash {
	var k api.Hash
	chance.Read(k[:])
	return k
}

// places are the bits at which bytes begin and end, and those beside them.
func places() []int {
	return []int{0, 1, 2, 6, 7, 8, 9, 15, 16, 17, 63, 64, 127, 128, 247, 248, 249, 254, 255}
}

// keys has those at both ends, some of a pattern, some by chance, and some that differ from
// others in one bit.
func keys() []api.Hash {
	chance := rand.New(rand.NewSource(31))
	ones := key(strings.Repeat("1", 256))
	mixed := key(strings.Repeat("01", 128))
	l := []api.Hash{{}, ones, mixed, key(strings.Repeat("10", 128)), {64, 255}, {64, 254}, {1}, {128}, anyKey(chance), anyKey(chance)}
	for _, i := range places() {
		l = append(l, turned(api.Hash{}, i), turned(ones, i), turned(mixed, i))
	}
	return l
}

func lengths() []int {
	return append(places(), 256)
}

// rightPrefixes has the beginnings of some keys.
func rightPrefixes() []api.Prefix {
	var l []api.Prefix
	for _, k := range keys()[:9] {
		for _, n := range lengths() {
			l = append(l, cut(digits(k)[:n]))
		}
	}
	return l
}

// wrongPrefixes has some with a length that there isn't, and some with a 1 behind their length.
func wrongPrefixes() []api.Prefix {
	var l []api.Prefix
	for _, k := range keys()[:9] {
		for _, n := range []int{-1, -8, -256, math.MinInt, 257, 264, 512, math.MaxInt} {
			l = append(l, api.Prefix{Len: n, Bits: k})
		}
		for _, n := range places() {
			p := cut(digits(k)[:n])
			for _, i := range []int{n, n + (255-n)/2, 255} {
				l = append(l, api.Prefix{Len: n, Bits: turned(p.Bits, i)})
			}
		}
	}
	return l
}

// own answers the digits of a formed prefix.
func own(p api.Prefix) string {
	return digits(p.Bits)[:p.Len]
}

func TestP31Examples(t *testing.T) {
	k := api.Hash{64}
	if b := prefix.Bit(k, 1); b != 1 {
		t.Error("Bit:", b)
	}
	if p := prefix.Cut(k, 2); p != (api.Prefix{Len: 2, Bits: api.Hash{64}}) {
		t.Error("Cut:", p)
	}
}

func TestP31Bit(t *testing.T) {
	for _, k := range keys() {
		for i, c := range digits(k) {
			if b := prefix.Bit(k, i); b != int(c-'0') {
				t.Errorf("Bit of %x at %d: %d", k, i, b)
			}
		}
	}
}

func TestP31BitBeyondTheEnds(t *testing.T) {
	ones := key(strings.Repeat("1", 256))
	for _, i := range []int{-1, -2, -8, -255, -256, math.MinInt, 256, 257, 264, 511, 512, math.MaxInt} {
		if b := prefix.Bit(ones, i); b != 0 {
			t.Error("Bit at", i, ":", b)
		}
	}
}

// same answers how many digits the two begin with are the same.
func same(a, b string) int {
	for i := range min(len(a), len(b)) {
		if a[i] != b[i] {
			return i
		}
	}
	return min(len(a), len(b))
}

func TestP31Shared(t *testing.T) {
	for _, a := range keys() {
		for _, b := range keys() {
			if n := prefix.Shared(a, b); n != same(digits(a), digits(b)) {
				t.Errorf("Shared of %x and %x: %d", a, b, n)
			}
		}
	}
}

// Behind the first bit that isn't the same nothing counts any more.
func TestP31SharedAtEveryBit(t *testing.T) {
	chance := rand.New(rand.NewSource(32))
	for i := range 256 {
		a, other := anyKey(chance), anyKey(chance)
		b := turned(key(digits(a)[:i+1]+digits(other)[i+1:]), i)
		if n := prefix.Shared(a, b); n != i {
			t.Error("Shared:", n, "want", i)
		}
		if n := prefix.Shared(a, a); n != 256 {
			t.Error("Shared of a key and itself:", n)
		}
	}
}

func TestP31Cut(t *testing.T) {
	for _, k := range keys() {
		for n := range 257 {
			if p := prefix.Cut(k, n); p != cut(digits(k)[:n]) {
				t.Errorf("Cut of %x at %d: %x", k, n, p)
			}
		}
	}
}

func TestP31CutBeyondTheEnds(t *testing.T) {
	for _, k := range keys() {
		for _, n := range []int{-1, -8, -256, math.MinInt} {
			if p := prefix.Cut(k, n); p != (api.Prefix{}) {
				t.Errorf("Cut of %x at %d: %x", k, n, p)
			}
		}
		for _, n := range []int{257, 264, 512, math.MaxInt} {
			if p := prefix.Cut(k, n); p != (api.Prefix{Len: 256, Bits: k}) {
				t.Errorf("Cut of %x at %d: %x", k, n, p)
			}
		}
	}
}

func TestP31Formed(t *testing.T) {
	if !prefix.Formed(api.Prefix{}) {
		t.Error("the empty one isn't formed")
	}
	for _, p := range rightPrefixes() {
		if !prefix.Formed(p) {
			t.Errorf("%x isn't formed", p)
		}
	}
	for _, p := range wrongPrefixes() {
		if prefix.Formed(p) {
			t.Errorf("%x is formed", p)
		}
	}
}

// One bit is enough, wherever it stands behind the length.
func TestP31FormedOfEveryBit(t *testing.T) {
	for n := range 257 {
		for i := range 256 {
			if prefix.Formed(api.Prefix{Len: n, Bits: turned(api.Hash{}, i)}) != (i < n) {
				t.Error("length", n, "bit", i)
			}
		}
	}
}

func TestP31Holds(t *testing.T) {
	for _, k := range keys() {
		for _, p := range rightPrefixes() {
			if prefix.Holds(p, k) != strings.HasPrefix(digits(k), own(p)) {
				t.Errorf("whether %x holds %x", p, k)
			}
		}
		if !prefix.Holds(api.Prefix{}, k) {
			t.Errorf("the empty one doesn't hold %x", k)
		}
	}
}

// What isn't formed holds nothing, its own bits neither.
func TestP31HoldsOfWhatIsNotFormed(t *testing.T) {
	for _, p := range wrongPrefixes() {
		for _, k := range append(keys(), p.Bits) {
			if prefix.Holds(p, k) {
				t.Errorf("%x holds %x", p, k)
			}
		}
	}
}

func TestP31Within(t *testing.T) {
	for _, p := range rightPrefixes() {
		for _, q := range rightPrefixes() {
			if prefix.Within(p, q) != strings.HasPrefix(own(q), own(p)) {
				t.Errorf("whether %x holds %x", p, q)
			}
		}
		if !prefix.Within(p, p) || !prefix.Within(api.Prefix{}, p) {
			t.Errorf("%x isn't held by itself, or by the empty one", p)
		}
	}
}

// The noughts behind a shorter one are none of its bits.
func TestP31WithinOfAShorterOne(t *testing.T) {
	for n := range 256 {
		p, q := cut(strings.Repeat("0", n)), cut(strings.Repeat("0", n+1))
		if prefix.Within(q, p) || !prefix.Within(p, q) {
			t.Error(n, "noughts, and one more")
		}
	}
}

func TestP31WithinOfWhatIsNotFormed(t *testing.T) {
	for _, p := range wrongPrefixes() {
		if prefix.Within(p, p) {
			t.Errorf("%x holds itself", p)
		}
		for _, q := range rightPrefixes() {
			if prefix.Within(p, q) || prefix.Within(q, p) {
				t.Errorf("%x or %x holds the other", p, q)
			}
		}
	}
}

func TestP31Meet(t *testing.T) {
	for _, p := range rightPrefixes() {
		for _, q := range rightPrefixes() {
			a, b := own(p), own(q)
			if m := prefix.Meet(p, q); m != cut(a[:same(a, b)]) {
				t.Errorf("Meet of %x and %x: %x", p, q, m)
			}
		}
	}
}

func TestP31MeetOfWhatIsNotFormed(t *testing.T) {
	for _, p := range wrongPrefixes() {
		if m := prefix.Meet(p, p); m != (api.Prefix{}) {
			t.Errorf("Meet of %x and itself: %x", p, m)
		}
		for _, q := range rightPrefixes() {
			if prefix.Meet(p, q) != (api.Prefix{}) || prefix.Meet(q, p) != (api.Prefix{}) {
				t.Errorf("Meet of %x and %x isn't the empty one", p, q)
			}
		}
	}
}

func TestP31Child(t *testing.T) {
	for _, k := range keys() {
		for n := range 256 {
			p := cut(digits(k)[:n])
			for bit, digit := range []string{"0", "1"} {
				if q, ok := prefix.Child(p, bit); !ok || q != cut(own(p)+digit) {
					t.Errorf("Child of %x by %d: %x, %t", p, bit, q, ok)
				}
			}
		}
	}
}

func wantNoChild(t *testing.T, p api.Prefix, bit int) {
	t.Helper()
	if q, ok := prefix.Child(p, bit); ok || q != (api.Prefix{}) {
		t.Errorf("Child of %x by %d: %x, %t", p, bit, q, ok)
	}
}

func TestP31ChildThatIsNone(t *testing.T) {
	for _, p := range wrongPrefixes() {
		wantNoChild(t, p, 0)
		wantNoChild(t, p, 1)
	}
	for _, k := range keys() {
		wantNoChild(t, api.Prefix{Len: 256, Bits: k}, 0)
		wantNoChild(t, api.Prefix{Len: 256, Bits: k}, 1)
	}
	for _, p := range rightPrefixes() {
		for _, bit := range []int{-1, 2, 3, 255, 256, 257, -255, -256, 1 << 32, 1<<32 + 1, math.MinInt, math.MaxInt} {
			wantNoChild(t, p, bit)
		}
	}
}

func TestP31Less(t *testing.T) {
	for _, a := range keys() {
		for _, b := range keys() {
			if prefix.Less(a, b) != (digits(a) < digits(b)) {
				t.Errorf("whether %x is less than %x", a, b)
			}
		}
	}
}

// The first bit that isn't the same tells, whatever stands behind it.
func TestP31LessAtEveryBit(t *testing.T) {
	chance := rand.New(rand.NewSource(33))
	for i := range 256 {
		start := digits(anyKey(chance))[:i]
		a := key(start + "0" + digits(anyKey(chance))[i+1:])
		b := key(start + "1" + digits(anyKey(chance))[i+1:])
		if !prefix.Less(a, b) || prefix.Less(b, a) || prefix.Less(a, a) || prefix.Less(b, b) {
			t.Error("first other bit:", i)
		}
	}
}
