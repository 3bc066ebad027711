package trail_test

import (
	"fmt"
	"math"
	"math/rand"
	"slices"
	"testing"

	"rolodex/api"
	"rolodex/hash"
	"rolodex/trail"
)

func TestP161Example(t *testing.T) {
	l := entries(2)
	x, e := trail.Entry(l, 0)
	wantTrail(t, "of two hashes the first one's", x, e, trail.Trail{Behind: l[1:]})
}

func TestP161EntryWrittenOut(t *testing.T) {
	n := nodeOf
	h := plain(9)
	for _, c := range []struct {
		i, of         int
		ahead, behind []api.Hash
	}{
		{0, 1, nil, nil},
		{0, 2, nil, h[1:2]},
		{1, 2, h[:1], nil},
		{0, 3, nil, h[1:3]},
		{1, 3, h[:1], h[2:3]},
		{2, 3, []api.Hash{n(h[0], h[1])}, nil},
		{0, 4, nil, []api.Hash{h[1], n(h[2], h[3])}},
		{1, 4, h[:1], []api.Hash{n(h[2], h[3])}},
		{2, 4, []api.Hash{n(h[0], h[1])}, h[3:4]},
		{3, 4, []api.Hash{n(h[0], h[1]), h[2]}, nil},
		{0, 5, nil, []api.Hash{h[1], n(h[2], h[3]), h[4]}},
		{2, 5, []api.Hash{n(h[0], h[1])}, h[3:5]},
		{4, 5, []api.Hash{n(n(h[0], h[1]), n(h[2], h[3]))}, nil},
		{3, 8, []api.Hash{n(h[0], h[1]), h[2]}, []api.Hash{n(n(h[4], h[5]), n(h[6], h[7]))}},
		{6, 9, []api.Hash{n(n(h[0], h[1]), n(h[2], h[3])), n(h[4], h[5])}, h[7:9]},
		{0, 9, nil, []api.Hash{h[1], n(h[2], h[3]), n(n(h[4], h[5]), n(h[6], h[7])), h[8]}},
	} {
		x, e := trail.Entry(h[:c.of], c.i)
		wantTrail(t, fmt.Sprint("entry ", c.i, " of ", c.of), x, e, trail.Trail{Ahead: c.ahead, Behind: c.behind})
	}
}

func TestP161GrowthWrittenOut(t *testing.T) {
	n := nodeOf
	h := plain(9)
	for _, c := range []struct {
		m, of         int
		ahead, behind []api.Hash
	}{
		{0, 0, nil, nil},
		{0, 1, nil, h[:1]},
		{1, 1, h[:1], nil},
		{0, 2, nil, []api.Hash{n(h[0], h[1])}},
		{1, 2, h[:1], h[1:2]},
		{2, 2, []api.Hash{n(h[0], h[1])}, nil},
		{0, 3, nil, []api.Hash{n(h[0], h[1]), h[2]}},
		{1, 3, h[:1], h[1:3]},
		{2, 3, []api.Hash{n(h[0], h[1])}, h[2:3]},
		{3, 3, []api.Hash{n(h[0], h[1]), h[2]}, nil},
		{1, 4, h[:1], []api.Hash{h[1], n(h[2], h[3])}},
		{3, 4, []api.Hash{n(h[0], h[1]), h[2]}, h[3:4]},
		{2, 6, []api.Hash{n(h[0], h[1])}, []api.Hash{n(h[2], h[3]), n(h[4], h[5])}},
		{5, 9, []api.Hash{n(n(h[0], h[1]), n(h[2], h[3])), h[4]}, []api.Hash{h[5], n(h[6], h[7]), h[8]}},
		{8, 9, []api.Hash{n(n(n(h[0], h[1]), n(h[2], h[3])), n(n(h[4], h[5]), n(h[6], h[7])))}, h[8:9]},
	} {
		x, e := trail.Growth(h[:c.of], c.m)
		wantTrail(t, fmt.Sprint("the first ", c.m, " of ", c.of), x, e, trail.Trail{Ahead: c.ahead, Behind: c.behind})
	}
}

// The hashes were reckoned by another program.
func TestP161OfThirteenEntries(t *testing.T) {
	l := entries(13)
	x, e := trail.Entry(l, 5)
	wantTrail(t, "entry 5 of 13", x, e, trail.Trail{
		Ahead: hashesOf(
			"8e21555289b20700334f9f8ad6eeb23649dc217122ed5264b3660b6063b59607",
			"b59024333110b3108625f25447665c1ebf10c6a6bbe9f018c421f4b0dcb5a993",
		),
		Behind: hashesOf(
			"97b6f26916d742a672be21b41d5ae23e7ab679fd74625806d6c924649acd35e2",
			"4bc15ea98a12c673bcc531ea01d9a50a70c43b1e89aac394a7fac216031c672b",
			"422b2ef64d5445069b0e3aa3e0d533b0b76f1cdea4c3482ad2fb58be0f2839a3",
		),
	})
	x, e = trail.Growth(l, 6)
	wantTrail(t, "the first 6 of 13", x, e, trail.Trail{
		Ahead: hashesOf(
			"8e21555289b20700334f9f8ad6eeb23649dc217122ed5264b3660b6063b59607",
			"b30a4bb7276fea37225f83416350f0391303ea121e2fcfabcfd09bae25c4df28",
		),
		Behind: hashesOf(
			"97b6f26916d742a672be21b41d5ae23e7ab679fd74625806d6c924649acd35e2",
			"4bc15ea98a12c673bcc531ea01d9a50a70c43b1e89aac394a7fac216031c672b",
			"422b2ef64d5445069b0e3aa3e0d533b0b76f1cdea4c3482ad2fb58be0f2839a3",
		),
	})
	x, e = trail.Growth(l, 11)
	wantTrail(t, "the first 11 of 13", x, e, trail.Trail{
		Ahead: hashesOf(
			"de1179c92dc98db5358961ded727f4b71474a71aa3e4053cf9e266d24cfb754a",
			"1e8d68528b2857a73daad3bfb8b8645a85a068efdc3f364799a033f7bd899352",
			"89e7e71bcf902b988b5d385a0f68cc2c4cba2df873d0c502376c0051120610f6",
		),
		Behind: hashesOf(
			"9ddddd8ec1814a293fcca202ebfbe14e5d808dda142eee64c6108381e99e5cff",
			"422b2ef64d5445069b0e3aa3e0d533b0b76f1cdea4c3482ad2fb58be0f2839a3",
		),
	})
}

// wantSums holds both of a trail's lists to their numbers, and to the hashes of all of their bytes.
func wantSums(t *testing.T, name string, x trail.Trail, e api.Errno, ahead, behind int, sumAhead, sumBehind string) {
	t.Helper()
	sum := func(l []api.Hash) api.Hash {
		var all []byte
		for _, h := range l {
			all = append(all, h[:]...)
		}
		return hash.Sum(all)
	}
	if e != api.OK || len(x.Ahead) != ahead || len(x.Behind) != behind || sum(x.Ahead) != hashOf(sumAhead) || sum(x.Behind) != hashOf(sumBehind) {
		t.Errorf("%s: %x, %d", name, x, e)
	}
}

// The hashes were reckoned by another program.
func TestP161EntryOfLongLists(t *testing.T) {
	l := entries(70000)
	for _, c := range []struct {
		i, of, ahead, behind int
		sumAhead, sumBehind  string
	}{
		{0, 1000, 0, 14, "e3b0c44298fc1c149afbf4c8996fb92427ae41e4649b934ca495991b7852b855", "50b819068189dfbecab96bb7c0ea3899c7f91ed8821ac156c6e6ee7c39d6ea86"},
		{700, 1000, 6, 7, "1e0bd274867a69ada0bdba464eaf41adc314c8a071a9faf13d6ac381fe2f10d5", "f603618d5fe6b027fd461b39d1c5860fcf4433dbad5cc79a0b7f9cdb67ed9665"},
		{999, 1000, 8, 0, "8aec1fe5be615ce467855947376cfe0170a1eabb256dd8dc402720051c73fe0d", "e3b0c44298fc1c149afbf4c8996fb92427ae41e4649b934ca495991b7852b855"},
		{65535, 70000, 16, 5, "00667ad681418d663001a14e61f47fec08ce695ad7efb61c88cad92c36601b17", "bb7648358ed9d1726ad3e5358e47ac6842e5b4f31c39bdb2cc14089b5534d236"},
		{65536, 70000, 1, 16, "aabd99b22cae1342f5bcaa4693b5bb37f9b7fe061ae10796a473511d19759789", "dd48cf1f34d3c1bec592278edd766853d84018df8e6fd5f54e54bf05d5f6338b"},
		{43690, 65536, 8, 8, "ed30942d2fe9a12c1bb8edca03a78699504c6d077ffc3bffa86fc49484cb36bd", "c96874c43fb908ed3e53f49f20238193a647a4ea027075aa7a9011d18f222071"},
		{69999, 70000, 9, 0, "79941fd3e44226723d44f26d90729a383ab1801c3ebe7704068f45940c79793f", "e3b0c44298fc1c149afbf4c8996fb92427ae41e4649b934ca495991b7852b855"},
	} {
		x, e := trail.Entry(l[:c.of], c.i)
		wantSums(t, fmt.Sprint("entry ", c.i, " of ", c.of), x, e, c.ahead, c.behind, c.sumAhead, c.sumBehind)
	}
}

// The hashes were reckoned by another program.
func TestP161GrowthOfLongLists(t *testing.T) {
	l := entries(70000)
	for _, c := range []struct {
		m, of, ahead, behind int
		sumAhead, sumBehind  string
	}{
		{0, 1000, 0, 6, "e3b0c44298fc1c149afbf4c8996fb92427ae41e4649b934ca495991b7852b855", "81d88c40ab285bb18c74e9f7ae382983a9518183907152aebdb06df3e9dcfb6e"},
		{1, 1000, 1, 14, "7901af93a8804984b3b0d8de98710463ae98ce106c10c75ca2964002e04084f3", "50b819068189dfbecab96bb7c0ea3899c7f91ed8821ac156c6e6ee7c39d6ea86"},
		{700, 1000, 6, 6, "1e0bd274867a69ada0bdba464eaf41adc314c8a071a9faf13d6ac381fe2f10d5", "5764023966b26b3c5d837a2d2d8ed4affc1ab64fec4d7ac540c6191c911848a0"},
		{1000, 1000, 6, 0, "81d88c40ab285bb18c74e9f7ae382983a9518183907152aebdb06df3e9dcfb6e", "e3b0c44298fc1c149afbf4c8996fb92427ae41e4649b934ca495991b7852b855"},
		{65535, 70000, 16, 6, "00667ad681418d663001a14e61f47fec08ce695ad7efb61c88cad92c36601b17", "d61f88d91d8e0f7779375c06fd08ecef120d3f7b42e57bc3c1f7a8d02a3b63dc"},
		{65536, 70000, 1, 5, "aabd99b22cae1342f5bcaa4693b5bb37f9b7fe061ae10796a473511d19759789", "bb7648358ed9d1726ad3e5358e47ac6842e5b4f31c39bdb2cc14089b5534d236"},
		{21845, 65536, 8, 9, "03a89b5b42153316c8d402c86e4c6f85ae9b2997b33d68f888ad31ef27ec3e01", "fd93beccd36cb5f158465cd1038040a35359d840fd1aecfc72ecb2324b99421e"},
		{69999, 70000, 9, 1, "79941fd3e44226723d44f26d90729a383ab1801c3ebe7704068f45940c79793f", "882a95f06b3064f648b9e81a771091f6340a0b02e22f8d2d9008118ef1b866a7"},
	} {
		x, e := trail.Growth(l[:c.of], c.m)
		wantSums(t, fmt.Sprint("the first ", c.m, " of ", c.of), x, e, c.ahead, c.behind, c.sumAhead, c.sumBehind)
	}
}

// All places of small lists, and those that they haven't.
func TestP161OfSmallLists(t *testing.T) {
	all := plain(80)
	for n := range all {
		l := all[:n]
		for i := -3; i <= n+3; i++ {
			wantAnswers(t, l, i)
		}
	}
}

// wantAnswers holds Entry and Growth to the model.
func wantAnswers(t *testing.T, l []api.Hash, i int) {
	t.Helper()
	name := fmt.Sprint(i, " of ", len(l))
	x, e := trail.Entry(l, i)
	if want, f := entryOf(l, i); f == api.OK {
		wantTrail(t, "entry "+name, x, e, want)
	} else {
		wantNoTrail(t, "entry "+name, x, e)
	}
	x, e = trail.Growth(l, i)
	if want, f := growthOf(l, i); f == api.OK {
		wantTrail(t, "the first "+name, x, e, want)
	} else {
		wantNoTrail(t, "the first "+name, x, e)
	}
}

func TestP161OfListsAtRandom(t *testing.T) {
	chance := rand.New(rand.NewSource(161))
	for range 150 {
		l := anyHashes(chance, chance.Intn(1500))
		for range 3 {
			wantAnswers(t, l, chance.Intn(len(l)+2))
		}
	}
}

// Hashes that are the same stand at places of their own.
func TestP161OfSameHashes(t *testing.T) {
	for n := range 40 {
		for i := range n + 1 {
			wantAnswers(t, make([]api.Hash, n), i)
			wantAnswers(t, slices.Repeat([]api.Hash{countedHash(7)}, n), i)
		}
	}
}

// far answers numbers that are no places of a short list.
func far() []int {
	return []int{
		math.MinInt, math.MinInt + 1, -1 << 40, -1 << 32, 1 - 1<<32, 3 - 1<<32, -1 << 31, -1000, -3, -2, -1, 1000, mostTo - 1, mostTo,
		1 << 31, 1<<31 + 1, 1<<32 - 1, 1 << 32, 1<<32 + 1, 1<<32 + 2, 1<<32 + 5, 1<<33 + 3, 1 << 40, 1 << 62, math.MaxInt - 1, math.MaxInt,
	}
}

// What is below 0, or goes beyond the list, is refused; what ends there isn't.
func TestP161Places(t *testing.T) {
	for n := range 20 {
		l := plain(n)
		for _, i := range far() {
			x, e := trail.Entry(l, i)
			wantNoTrail(t, fmt.Sprint("entry ", i, " of ", n), x, e)
			x, e = trail.Growth(l, i)
			wantNoTrail(t, fmt.Sprint("the first ", i, " of ", n), x, e)
		}
		x, e := trail.Entry(l, n)
		wantNoTrail(t, fmt.Sprint("the entry behind the last one of ", n), x, e)
		x, e = trail.Growth(l, n+1)
		wantNoTrail(t, fmt.Sprint("one more than all of ", n), x, e)
		x, e = trail.Growth(l, n)
		wantTrail(t, fmt.Sprint("all of ", n), x, e, trail.Trail{Ahead: rangeOf(l, 0, n)})
		x, e = trail.Growth(l, 0)
		wantTrail(t, fmt.Sprint("none of ", n), x, e, trail.Trail{Behind: rangeOf(l, 0, n)})
	}
	for _, l := range [][]api.Hash{nil, {}, plain(5)[:0]} {
		for _, i := range []int{0, 1, -1} {
			x, e := trail.Entry(l, i)
			wantNoTrail(t, fmt.Sprint("entry ", i, " of nothing"), x, e)
			wantAnswers(t, l, i)
		}
	}
}
