package head_test

import (
	"math"
	"testing"

	"ragpicker/api"
	"ragpicker/head"
)

const (
	fields = 63
	epochs = 1 << 20
)

// numbers are ordinary ones, edges of all parts of a head, and wrong ones.
var numbers = []int{math.MinInt, math.MinInt32, -epochs, -64, -1, 0, 1, 2, 3, 7, 31, 32, 62, 63, 64, 65, 127, 128, 1000,
	epochs - 1, epochs, epochs + 1, 2 * epochs, 4 * epochs, 1 << 31, 1 << 32, 1 << 53, 1 << 54, 1 << 61, math.MaxInt}

// everyHead goes through all heads whose numbers are among those, whether they may be or not.
func everyHead(yield func(api.Head) bool) {
	for flags := range 8 {
		for _, n := range numbers {
			for _, born := range numbers {
				for _, mark := range numbers {
					h := api.Head{Used: flags&1 != 0, Old: flags&2 != 0, Done: flags&4 != 0, N: n, Born: born, Mark: mark}
					if !yield(h) {
						return
					}
				}
			}
		}
	}
}

// may is P1.1's own words again.
func may(h api.Head) bool {
	if !h.Used {
		return !h.Old && !h.Done && h.N == 0 && h.Born == 0 && h.Mark == 0
	}
	return h.N >= 0 && h.N <= fields && h.Born >= 0 && h.Born <= epochs && h.Mark >= 0 && h.Mark <= epochs
}

// word is P1.1's sum, of a head that may be.
func word(h api.Head) int {
	if !h.Used {
		return 0
	}
	w := 1
	if h.Old {
		w += 2
	}
	if h.Done {
		w += 4
	}
	return w + 8*h.N + 1024*h.Born + 4294967296*h.Mark
}

// P1.1: words that are written out by hand.
func TestPackKnownWords(t *testing.T) {
	for _, c := range []struct {
		h api.Head
		w int
	}{
		{api.Head{}, 0},
		{api.Head{Used: true}, 1},
		{api.Head{Used: true, Old: true}, 3},
		{api.Head{Used: true, Done: true}, 5},
		{api.Head{Used: true, Old: true, Done: true}, 7},
		{api.Head{Used: true, N: 1}, 9},
		{api.Head{Used: true, N: 63}, 505},
		{api.Head{Used: true, N: 2, Born: 3}, 3089},
		{api.Head{Used: true, Born: 1}, 1025},
		{api.Head{Used: true, Born: 1 << 20}, 1073741825},
		{api.Head{Used: true, Mark: 1}, 4294967297},
		{api.Head{Used: true, Mark: 1 << 20}, 4503599627370497},
		{api.Head{Used: true, Old: true, Done: true, N: 63, Born: 1 << 20, Mark: 1 << 20}, 4503600701112831},
	} {
		if !head.May(c.h) {
			t.Errorf("May(%+v): no", c.h)
		}
		if w, e := head.Pack(c.h); w != c.w || e != api.OK {
			t.Errorf("Pack(%+v): %d, %d; want %d", c.h, w, e, c.w)
		}
		if h, is := head.Unpack(c.w); h != c.h || !is {
			t.Errorf("Unpack(%d): %+v, %t; want %+v", c.w, h, is, c.h)
		}
	}
}

// P1.1: each part that is one too few, or too many, and what is not used and yet has something.
func TestPackWrongHeads(t *testing.T) {
	for _, h := range []api.Head{
		{Old: true}, {Done: true}, {N: 1}, {Born: 1}, {Mark: 1}, {N: -1}, {Born: -1}, {Mark: -1},
		{Old: true, Done: true, N: 63, Born: 1 << 20, Mark: 1 << 20},
		{Used: true, N: -1}, {Used: true, N: 64}, {Used: true, N: 128},
		{Used: true, Born: -1}, {Used: true, Born: 1<<20 + 1}, {Used: true, Born: 1 << 22},
		{Used: true, Mark: -1}, {Used: true, Mark: 1<<20 + 1}, {Used: true, Mark: 1 << 32},
		{Used: true, N: math.MaxInt}, {Used: true, Born: math.MinInt}, {Used: true, Mark: math.MaxInt},
	} {
		if head.May(h) {
			t.Errorf("May(%+v): yes", h)
		}
		if w, e := head.Pack(h); w != 0 || e != api.ErrArg {
			t.Errorf("Pack(%+v): %d, %d; want 0, ErrArg", h, w, e)
		}
	}
}

// P1.1, P1.2, P1: heads of all parts' edges, side by side with the document's words.
func TestPackEveryHead(t *testing.T) {
	for h := range everyHead {
		is := may(h)
		if head.May(h) != is {
			t.Fatalf("May(%+v): %t", h, !is)
		}
		w, e := head.Pack(h)
		if !is {
			if w != 0 || e != api.ErrArg {
				t.Fatalf("Pack(%+v): %d, %d; want 0, ErrArg", h, w, e)
			}
			continue
		}
		if w != word(h) || e != api.OK {
			t.Fatalf("Pack(%+v): %d, %d; want %d", h, w, e, word(h))
		}
		if back, ok := head.Unpack(w); back != h || !ok {
			t.Fatalf("Unpack(%d): %+v, %t; want %+v", w, back, ok, h)
		}
	}
}

// P1.1: words that no head has.
func TestUnpackWrongWords(t *testing.T) {
	for _, w := range []int{
		2, 4, 6, 8, 8 * 63, 1 << 10, 1 << 32, // not used, and yet something
		1 + 8*64, 1 + 1<<9 + 1<<3, // too many fields
		1 + 1<<10*(1<<20+1), 1 + 1<<31, 1 + 1<<30 + 1<<31, // born too late
		1 + 1<<32*(1<<20+1), 1 + 1<<53, 1 + 1<<62, // marked too late
		-1, -2, -8, 1 - 1<<32, math.MinInt, math.MinInt + 1, math.MaxInt, math.MaxInt - 1,
	} {
		if h, is := head.Unpack(w); is || h != (api.Head{}) {
			t.Errorf("Unpack(%d): %+v, %t; want nothing", w, h, is)
		}
	}
}

// P1.2: what is unpacked is packed to the word it was, and what is not unpacked is no head's word: all small words, and all words with one or two bits more or fewer than the least and the greatest head's.
func TestUnpackThenPack(t *testing.T) {
	for w := range 1 << 16 {
		checkWord(t, w)
		checkWord(t, -w)
	}
	greatest := word(api.Head{Used: true, Old: true, Done: true, N: fields, Born: epochs, Mark: epochs})
	for _, w := range []int{0, 1, 3089, greatest} {
		for i := range 64 {
			for j := range 64 {
				checkWord(t, w^1<<i)
				checkWord(t, w^1<<i^1<<j)
			}
		}
	}
}

// checkWord asks by the remainders of the document's factors whether a head has the word.
func checkWord(t *testing.T, w int) {
	t.Helper()
	h, is := head.Unpack(w)
	if !is {
		if h != (api.Head{}) {
			t.Fatalf("Unpack(%d): %+v, no", w, h)
		}
	} else if back, e := head.Pack(h); back != w || e != api.OK {
		t.Fatalf("Pack(Unpack(%d)): %d, %d", w, back, e)
	}
	want := w == 0
	if w > 0 {
		n, born, mark := w/8%128, w/1024%(1<<22), w/4294967296
		want = w%2 == 1 && n <= fields && born <= epochs && mark <= epochs
	}
	if is != want {
		t.Fatalf("Unpack(%d): %t", w, is)
	}
}

// P1.2: no two heads have one word.
func TestPackApart(t *testing.T) {
	of := map[int]api.Head{}
	for h := range everyHead {
		w, e := head.Pack(h)
		if e != api.OK {
			continue
		}
		if other, is := of[w]; is && other != h {
			t.Fatalf("%+v and %+v have the word %d", h, other, w)
		}
		of[w] = h
	}
	if len(of) < 1000 {
		t.Fatalf("only %d heads", len(of))
	}
}
