package arena_test

import (
	"math"
	"slices"
	"testing"

	"ragpicker/api"
	"ragpicker/arena"
)

// wrongLengths are of words that may not be: none, those next to a whole page, and more than 64 pages.
var wrongLengths = []int{0, 1, 8, 15, 17, 24, 31, 33, 1007, 1009, 1023, 1025, 1039, 1040, 1041, 2048, 16 * 128}

// far are numbers that are no address, no page and no count, and whose sums and products have no room.
var far = []int{math.MinInt, math.MinInt + 1, math.MinInt + 15, math.MinInt + 16, math.MinInt / 16, math.MinInt32, -1 << 60, -1024,
	1 << 31, 1 << 59, 1 << 60, 1<<60 + 1, math.MaxInt/16 + 1, math.MaxInt - 1024, math.MaxInt - 17, math.MaxInt - 16, math.MaxInt - 15, math.MaxInt - 1, math.MaxInt}

// words are so many, each another one, and none a nought.
func words(n int) []int {
	w := make([]int, n)
	for i := range w {
		w[i] = 1000*i + 7
	}
	return w
}

// roomy are words with more room behind them, which is not theirs.
func roomy(n int) (w, room []int) {
	room = words(n + 64)
	return room[:n], room
}

// addresses are all from well below the first one to well above the last one, and far ones.
func addresses(n int) []int {
	l := slices.Clone(far)
	for a := -40; a < n+16+40; a++ {
		l = append(l, a)
	}
	return l
}

// same fails where the words are not those wanted.
func same(t *testing.T, what string, got, want []int) {
	t.Helper()
	if !slices.Equal(got, want) {
		t.Fatalf("%s: %v; want %v", what, got, want)
	}
}

// refused fails where the error is not that, or words stand beside it.
func refused(t *testing.T, w []int, e, want api.Errno) {
	t.Helper()
	if e != want || len(w) != 0 {
		t.Fatalf("%v, %d; want nothing, %d", w, e, want)
	}
}

// apart fails where a change to one of two lists, or behind its end, is one to the other.
func apart(t *testing.T, in, room, out []int) {
	t.Helper()
	was, held := slices.Clone(out), slices.Clone(room)
	for i := range in {
		in[i]--
	}
	same(t, "what was answered, when what was handed in changes", out, was)
	copy(in, held)
	for i := range out {
		out[i] -= 2
	}
	_ = append(out, -3)
	same(t, "what was handed in, when what was answered changes", room, held)
}

// P2.1: so many noughts, of 1 and 64 pages and all between.
func TestNew(t *testing.T) {
	for pages := 1; pages <= 64; pages++ {
		w, e := arena.New(pages)
		if e != api.OK || len(w) != 16*pages || slices.ContainsFunc(w, func(x int) bool { return x != 0 }) {
			t.Fatalf("New(%d): %v, %d", pages, w, e)
		}
		if !arena.May(w) {
			t.Fatalf("May(New(%d)): no", pages)
		}
	}
}

// P2.1: what is no number of pages.
func TestNewWrong(t *testing.T) {
	for _, pages := range append([]int{0, 65, -1, -64, 66, 80, 128, 1024, 1<<60 + 2, 1<<32 + 1}, far...) {
		w, e := arena.New(pages)
		refused(t, w, e, api.ErrArg)
	}
}

// R3: what is new is the caller's own.
func TestNewOwn(t *testing.T) {
	one, _ := arena.New(2)
	other, _ := arena.New(2)
	one[0], one[31] = 5, 6
	same(t, "another new one", other, make([]int, 32))
	again, _ := arena.New(2)
	same(t, "a later new one", again, make([]int, 32))
}

// P2.1: of all lengths just the whole pages, from 1 to 64.
func TestMay(t *testing.T) {
	if arena.May(nil) {
		t.Error("May(nil): yes")
	}
	for n := range 2100 {
		want := n == 16 || n == 32 || n > 32 && n <= 1024 && n%16 == 0
		if arena.May(words(n)) != want {
			t.Errorf("May of %d words: %t", n, !want)
		}
	}
	w, _ := roomy(16)
	if !arena.May(w) || arena.May(w[:15]) || arena.May(w[:15:15]) {
		t.Error("May asks for more than how many words there are")
	}
	long := words(16)
	long[0], long[15] = math.MinInt, math.MaxInt
	if !arena.May(long) {
		t.Error("May of any numbers: no")
	}
}

// P2.1: the word at each address, of all sizes' first, last, and next ones.
func TestGet(t *testing.T) {
	for _, n := range []int{16, 32, 48, 1024} {
		w := words(n)
		for _, a := range addresses(n) {
			v, e := arena.Get(w, a)
			if a < 16 || a > 15+n {
				if v != 0 || e != api.ErrNone {
					t.Fatalf("Get of %d words, %d: %d, %d; want 0, ErrNone", n, a, v, e)
				}
			} else if v != w[a-16] || e != api.OK {
				t.Fatalf("Get of %d words, %d: %d, %d; want %d", n, a, v, e, w[a-16])
			}
		}
		same(t, "what was handed in", w, words(n))
	}
	w, _ := roomy(16)
	if v, e := arena.Get(w, 32); v != 0 || e != api.ErrNone {
		t.Errorf("Get of room behind: %d, %d", v, e)
	}
}

// P2.1, P2.2: words that may not be are told ahead of all else, at addresses that would be nobody's, too.
func TestWrongWords(t *testing.T) {
	lists := [][]int{nil}
	for _, n := range wrongLengths {
		lists = append(lists, words(n))
	}
	for _, w := range lists {
		was := slices.Clone(w)
		for _, a := range append([]int{-1, 0, 1, 15, 16, 17, 31, 32, len(w) + 15, len(w) + 16}, far...) {
			v, e := arena.Get(w, a)
			page, e2 := arena.Page(w, a)
			at, e3 := arena.At(w, a)
			if v != 0 || page != 0 || at != 0 || e != api.ErrArg || e2 != api.ErrArg || e3 != api.ErrArg {
				t.Fatalf("of %d words, %d: Get %d, %d, Page %d, %d, At %d, %d", len(w), a, v, e, page, e2, at, e3)
			}
			out, e := arena.Put(w, a, 3)
			refused(t, out, e, api.ErrArg)
			for _, n := range append([]int{-1, 0, 1, 16}, far...) {
				out, e = arena.Zero(w, a, n)
				refused(t, out, e, api.ErrArg)
			}
		}
		same(t, "what was handed in", w, was)
	}
}

// P2.1, P2.3: what was put is got, and all else is as it was; what was handed in, too.
func TestPut(t *testing.T) {
	for _, n := range []int{16, 32, 1024} {
		for _, a := range addresses(n) {
			w, room := roomy(n)
			v := 5 - 3*a
			out, e := arena.Put(w, a, v)
			same(t, "what was handed in", room, words(n+64))
			if a < 16 || a > 15+n {
				refused(t, out, e, api.ErrNone)
				continue
			}
			want := words(n)
			want[a-16] = v
			if e != api.OK {
				t.Fatalf("Put of %d words, %d: %d", n, a, e)
			}
			same(t, "Put", out, want)
			if got, e := arena.Get(out, a); got != v || e != api.OK {
				t.Fatalf("Get behind Put of %d words, %d: %d, %d", n, a, got, e)
			}
			apart(t, w, room, out)
		}
	}
}

// P2.1: any number may be put, also the one that is there.
func TestPutNumbers(t *testing.T) {
	w := words(32)
	for _, v := range append([]int{0, 1, -1, 7, 16007, 16, 47}, far...) {
		for _, a := range []int{16, 31, 32, 47} {
			out, e := arena.Put(w, a, v)
			got, e2 := arena.Get(out, a)
			if e != api.OK || e2 != api.OK || got != v || !arena.May(out) {
				t.Fatalf("Put(%d, %d): %d, %d, then %d", a, v, e, e2, got)
			}
		}
	}
	same(t, "what was handed in", w, words(32))
}

// zeroed is P2.1's own words again, address by address: no sum is made that may have no room.
func zeroed(w []int, a, n int) ([]int, api.Errno) {
	if n < 0 {
		return nil, api.ErrArg
	}
	want := slices.Clone(w)
	for range n {
		if a < 16 || a > 15+len(w) {
			return nil, api.ErrNone
		}
		want[a-16] = 0
		a++
	}
	return want, api.OK
}

// checkZero holds Zero against these words.
func checkZero(t *testing.T, size, a, n int) {
	t.Helper()
	w, room := roomy(size)
	out, e := arena.Zero(w, a, n)
	same(t, "what was handed in", room, words(size+64))
	want, e2 := zeroed(w, a, n)
	if e != e2 || !slices.Equal(out, want) {
		t.Fatalf("Zero of %d words, %d, %d: %v, %d; want %v, %d", size, a, n, out, e, want, e2)
	}
	if e == api.OK {
		apart(t, w, room, out)
	}
}

// P2.1, P2.3: noughts from each address on, as many as there are words, fewer, and more; and none, at any address.
func TestZero(t *testing.T) {
	for _, size := range []int{16, 32} {
		for _, a := range addresses(size) {
			for n := -3; n <= size+20; n++ {
				checkZero(t, size, a, n)
			}
			for _, n := range far {
				checkZero(t, size, a, n)
			}
		}
	}
}

// P2.1: the edges of the greatest words.
func TestZeroAllPages(t *testing.T) {
	for _, a := range append([]int{0, 15, 16, 17, 31, 32, 1023, 1024, 1038, 1039, 1040, 1041}, far...) {
		for _, n := range append([]int{-1, 0, 1, 2, 15, 16, 17, 1007, 1008, 1009, 1022, 1023, 1024, 1025}, far...) {
			checkZero(t, 1024, a, n)
		}
	}
}

// P2.1: edges by hand.
func TestZeroKnown(t *testing.T) {
	w := words(16)
	for _, c := range []struct {
		a, n    int
		noughts int
		e       api.Errno
	}{
		{16, 16, 16, api.OK}, {16, 1, 1, api.OK}, {31, 1, 1, api.OK}, {20, 4, 4, api.OK}, {20, 12, 12, api.OK},
		{16, 0, 0, api.OK}, {32, 0, 0, api.OK}, {0, 0, 0, api.OK}, {15, 0, 0, api.OK}, {-1, 0, 0, api.OK}, {math.MaxInt, 0, 0, api.OK}, {math.MinInt, 0, 0, api.OK},
		{16, 17, 0, api.ErrNone}, {31, 2, 0, api.ErrNone}, {32, 1, 0, api.ErrNone}, {15, 1, 0, api.ErrNone}, {15, 17, 0, api.ErrNone}, {20, 13, 0, api.ErrNone},
		{20, math.MaxInt, 0, api.ErrNone}, {16, math.MaxInt - 15, 0, api.ErrNone}, {math.MaxInt, 1, 0, api.ErrNone}, {math.MinInt, math.MaxInt, 0, api.ErrNone},
		{20, -1, 0, api.ErrArg}, {0, -1, 0, api.ErrArg}, {32, math.MinInt, 0, api.ErrArg}, {17, -16, 0, api.ErrArg},
	} {
		out, e := arena.Zero(w, c.a, c.n)
		if e != c.e {
			t.Errorf("Zero(%d, %d): %d; want %d", c.a, c.n, e, c.e)
			continue
		}
		if e != api.OK {
			refused(t, out, e, c.e)
			continue
		}
		noughts := 0
		for i, v := range out {
			if v == 0 {
				noughts++
			} else if v != w[i] {
				t.Errorf("Zero(%d, %d): %d at %d", c.a, c.n, v, 16+i)
			}
		}
		if noughts != c.noughts || len(out) != 16 {
			t.Errorf("Zero(%d, %d): %d noughts of %d", c.a, c.n, noughts, len(out))
		}
	}
	same(t, "what was handed in", w, words(16))
}

// P2.2: the page of each address, counted by whole pages ahead of it.
func TestPage(t *testing.T) {
	for _, n := range []int{16, 32, 48, 1024} {
		w := words(n)
		for _, a := range addresses(n) {
			page, e := arena.Page(w, a)
			if a < 16 || a > 15+n {
				if page != 0 || e != api.ErrNone {
					t.Fatalf("Page of %d words, %d: %d, %d; want 0, ErrNone", n, a, page, e)
				}
				continue
			}
			want := 0
			for end := 32; end <= a; end += 16 {
				want++
			}
			if page != want || e != api.OK {
				t.Fatalf("Page of %d words, %d: %d, %d; want %d", n, a, page, e, want)
			}
		}
		same(t, "what was handed in", w, words(n))
	}
}

// P2.2: the first address of each page, and pages that there are not.
func TestAt(t *testing.T) {
	for _, pages := range []int{1, 2, 3, 63, 64} {
		w := words(16 * pages)
		want := 16
		for page := range pages {
			if a, e := arena.At(w, page); a != want || e != api.OK {
				t.Fatalf("At of %d pages, %d: %d, %d; want %d", pages, page, a, e, want)
			}
			want += 16
		}
		for _, page := range append([]int{-1, -2, pages, pages + 1, 65, 1024}, far...) {
			if a, e := arena.At(w, page); a != 0 || e != api.ErrNone {
				t.Fatalf("At of %d pages, %d: %d, %d; want 0, ErrNone", pages, page, a, e)
			}
		}
		same(t, "what was handed in", w, words(16*pages))
	}
}

// P2.3: a page's first word lies in it, and the one ahead of it does not.
func TestFirstWordInPage(t *testing.T) {
	for pages := 1; pages <= 64; pages++ {
		w, _ := arena.New(pages)
		for page := range pages {
			a, e := arena.At(w, page)
			in, e2 := arena.Page(w, a)
			if e != api.OK || e2 != api.OK || in != page {
				t.Fatalf("of %d pages, %d: At %d, %d, Page %d, %d", pages, page, a, e, in, e2)
			}
			if last, e := arena.Page(w, a+15); last != page || e != api.OK {
				t.Fatalf("of %d pages, the last word of %d is in %d, %d", pages, page, last, e)
			}
			if ahead, e := arena.Page(w, a-1); page > 0 && (ahead != page-1 || e != api.OK) || page == 0 && e != api.ErrNone {
				t.Fatalf("of %d pages, the word ahead of %d is in %d, %d", pages, page, ahead, e)
			}
		}
	}
}

// P2.3: puts and noughts, one behind the other, side by side with a map.
func TestPutsAndNoughts(t *testing.T) {
	w, _ := arena.New(4)
	held := map[int]int{}
	for i := range 3000 {
		a := 16 + i*37%64
		if i%5 == 4 {
			n := i * 11 % (80 - a + 1)
			w, _ = arena.Zero(w, a, n)
			for j := range n {
				delete(held, a+j)
			}
		} else {
			w, _ = arena.Put(w, a, i-1500)
			held[a] = i - 1500
		}
		for b := 16; b < 80; b++ {
			if v, e := arena.Get(w, b); v != held[b] || e != api.OK {
				t.Fatalf("step %d: Get(%d): %d, %d; want %d", i, b, v, e, held[b])
			}
		}
	}
}

// R5: what is asked again is answered alike, whatever was asked between.
func TestAskedAgain(t *testing.T) {
	w := words(32)
	put, _ := arena.Put(w, 40, 1)
	zero, _ := arena.Zero(w, 30, 4)
	page, _ := arena.Page(w, 40)
	arena.Put(put, 17, 9)
	arena.Zero(zero, 16, 32)
	arena.Zero(w, 0, -1)
	put2, _ := arena.Put(w, 40, 1)
	zero2, _ := arena.Zero(w, 30, 4)
	page2, _ := arena.Page(w, 40)
	same(t, "Put", put2, put)
	same(t, "Zero", zero2, zero)
	if page2 != page {
		t.Errorf("Page: %d, then %d", page, page2)
	}
}

// The chapter's example.
func TestExample(t *testing.T) {
	w, _ := arena.New(2)
	for a, is := range map[int]bool{15: false, 16: true, 47: true, 48: false} {
		if _, e := arena.Get(w, a); (e == api.OK) != is {
			t.Errorf("Get(%d): %d", a, e)
		}
	}
	if page, e := arena.Page(w, 32); page != 1 || e != api.OK {
		t.Errorf("Page(32): %d, %d", page, e)
	}
}
