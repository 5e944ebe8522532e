package alloc_test

import (
	"fmt"
	"math"
	"slices"
	"testing"

	"ragpicker/alloc"
	"ragpicker/api"
	"ragpicker/heap"
)

// far are numbers of fields so far off that a sum, or so many pages, leaves 64 bits, or wraps into what is right in fewer.
var far = []int{math.MinInt, math.MinInt + 1, math.MinInt + 3, math.MinInt + 20, math.MinInt32, -1 << 61, -1<<61 + 1, -1 << 32, -1<<32 + 3, -1<<32 + 20,
	127, 128, 129, 131, 148, 255, 256, 257, 259, 1 << 16, 1<<16 + 3, 1 << 29, 1<<29 + 3, 1 << 32, 1<<32 + 1, 1<<32 + 3, 1<<32 + 20, 1 << 54, 1<<54 + 3, 1 << 61, 1<<61 + 1, 1<<61 + 3, 1<<61 + 20, 1 << 62, math.MaxInt - 1, math.MaxInt}

var (
	free = api.Page{Kind: api.PageFree}
	rest = api.Page{Kind: api.PageRest}
)

func small(class int) api.Page { return api.Page{Kind: api.PageSmall, Arg: class} }
func large(n int) api.Page     { return api.Page{Kind: api.PageLarge, Arg: n} }

// run are all pages of a large object of n pages.
func run(n int) []api.Page {
	return append([]api.Page{large(n)}, slices.Repeat([]api.Page{rest}, n-1)...)
}

// used is a head with so many fields, and nothing else.
func used(n int) api.Head { return api.Head{Used: true, N: n} }

// word is a head's word, as chapter 1 says it.
func word(x api.Head) int {
	w := 0
	if x.Used {
		w++
	}
	if x.Old {
		w += 2
	}
	if x.Done {
		w += 4
	}
	return w + 8*x.N + 1024*x.Born + 4294967296*x.Mark
}

// noise is a word that nobody asks about: many of them look like heads, or like addresses; none is 0.
func noise(a int) int {
	return []int{word(used(1)), -1, 7, word(used(5)), 16, word(used(40)), math.MinInt, math.MaxInt, 18, word(used(2)), 2, 1}[a%12]
}

// sizes are an object's class (3, if it is large), how many words its cell has, and how many pages it takes, if it is large, as chapter 3 says it.
func sizes(n int) (class, words, run int) {
	switch {
	case n <= 1:
		return 0, 2, 0
	case n <= 3:
		return 1, 4, 0
	case n <= 7:
		return 2, 8, 0
	}
	run = n/16 + 1
	return 3, 16 * run, run
}

// span is a cell: where it begins, how many words are its, and which class it is of.
type span struct{ at, words, class int }

// cellsOf says again where cells begin on pages that may be.
func cellsOf(l []api.Page) []span {
	var all []span
	for page, p := range l {
		at := 16 + 16*page
		switch p.Kind {
		case 1:
			words := []int{2, 4, 8}[p.Arg]
			for next := at; next < at+16; next += words {
				all = append(all, span{next, words, p.Arg})
			}
		case 2:
			all = append(all, span{at, 16 * p.Arg, 3})
		}
	}
	return all
}

// build is a heap of pages, with objects by their addresses, clean and dirty cards in turn, and noise in all words but the first ones of cells.
func build(l []api.Page, objects map[int]api.Head, free api.Lists) api.Heap {
	h := api.Heap{Pages: slices.Clone(l), Free: cloneLists(free)}
	for i := range 16 * len(l) {
		h.W = append(h.W, noise(16+i))
	}
	for _, c := range cellsOf(l) {
		h.W[c.at-16] = word(objects[c.at])
	}
	for i := range 2 * len(l) {
		h.Cards = append(h.Cards, i%3 != 1)
	}
	return h
}

func cloneLists(l api.Lists) api.Lists {
	for class := range l {
		l[class] = slices.Clone(l[class])
	}
	return l
}

func clone(h api.Heap) api.Heap {
	return api.Heap{W: slices.Clone(h.W), Pages: slices.Clone(h.Pages), Free: cloneLists(h.Free), Cards: slices.Clone(h.Cards)}
}

func sameLists(l, m api.Lists) bool {
	return slices.Equal(l[0], m[0]) && slices.Equal(l[1], m[1]) && slices.Equal(l[2], m[2])
}

func same(h, g api.Heap) bool {
	return slices.Equal(h.W, g.W) && slices.Equal(h.Pages, g.Pages) && sameLists(h.Free, g.Free) && slices.Equal(h.Cards, g.Cards)
}

// answer is what Take tells.
type answer struct {
	h  api.Heap
	c  api.Lists
	at int
	e  api.Errno
}

func take(h api.Heap, c api.Lists, x api.Head) answer {
	g, d, at, e := alloc.Take(h, c, x)
	return answer{g, d, at, e}
}

func (a answer) copied() answer { return answer{clone(a.h), cloneLists(a.c), a.at, a.e} }

// is tells whether two answers are the same, but that lists without elements may be nil or empty (R6).
func (a answer) is(b answer) bool {
	return same(a.h, b.h) && sameLists(a.c, b.c) && a.at == b.at && a.e == b.e
}

// firstRun says again from which page on n pages are free; -1, if there are none.
func firstRun(l []api.Page, n int) int {
	for page := 0; page+n <= len(l); page++ {
		if slices.Equal(l[page:page+n], slices.Repeat([]api.Page{free}, n)) {
			return page
		}
	}
	return -1
}

// say says again what the chapter says of Take, of a heap that may be with c, and a head that is used, with 1 to 63 fields.
func say(h api.Heap, c api.Lists, x api.Head) answer {
	h, c = clone(h), cloneLists(c)
	class, words, pages := sizes(x.N)
	at := 0
	if class == 3 {
		page := firstRun(h.Pages, pages)
		if page < 0 {
			return answer{e: api.ErrFull}
		}
		copy(h.Pages[page:], run(pages))
		at = 16 + 16*page
	} else {
		if len(c[class])+len(h.Free[class]) == 0 {
			page := firstRun(h.Pages, 1)
			if page < 0 {
				return answer{e: api.ErrFull}
			}
			h.Pages[page] = small(class)
			for a := 16 + 16*page + 16 - words; a >= 16+16*page; a -= words {
				h.W[a-16] = 0
				h.Free[class] = append(h.Free[class], a)
			}
		}
		if len(c[class]) == 0 {
			for range min(2, len(h.Free[class])) {
				last := len(h.Free[class]) - 1
				c[class] = append(c[class], h.Free[class][last])
				h.Free[class] = h.Free[class][:last]
			}
		}
		last := len(c[class]) - 1
		at = c[class][last]
		c[class] = c[class][:last]
	}
	for a := at; a < at+words; a++ {
		h.W[a-16] = 0
	}
	h.W[at-16] = word(x)
	return answer{h, c, at, api.OK}
}

// heads are those with so many fields that may be, and are used.
func heads(n int) []api.Head {
	return []api.Head{
		used(n), {Used: true, Old: true, N: n}, {Used: true, Done: true, N: n}, {Used: true, N: n, Born: 1}, {Used: true, N: n, Mark: 1},
		{Used: true, Old: true, Done: true, N: n, Born: 9, Mark: 11}, {Used: true, Done: true, N: n, Born: 5, Mark: 5},
		{Used: true, N: n, Born: 1 << 20}, {Used: true, N: n, Mark: 1 << 20}, {Used: true, Old: true, Done: true, N: n, Born: 1 << 20, Mark: 1 << 20},
	}
}

// wrongHeads are those that may not be, or are not used, or have no fields.
func wrongHeads() []api.Head {
	l := []api.Head{{}, {Old: true}, {Done: true}, {Born: 1}, {Mark: 1}}
	for _, n := range []int{1, 2, 3, 5, 7, 8, 15, 16, 40, 63} {
		l = append(l, api.Head{N: n}, api.Head{Old: true, Done: true, N: n, Born: 1, Mark: 1},
			api.Head{Used: true, N: n, Born: -1}, api.Head{Used: true, N: n, Mark: -1}, api.Head{Used: true, N: n, Born: 1<<20 + 1}, api.Head{Used: true, N: n, Mark: 1<<20 + 1},
			api.Head{Used: true, N: n, Born: math.MaxInt}, api.Head{Used: true, N: n, Mark: math.MinInt}, api.Head{Used: true, N: n, Born: 1 << 32}, api.Head{Used: true, N: n, Mark: 1 << 32})
	}
	for _, n := range slices.Concat([]int{-128, -64, -63, -16, -8, -7, -3, -2, -1, 0, 64, 65, 66, 79, 80, 100}, far) {
		l = append(l, used(n), api.Head{Used: true, Old: true, N: n, Born: 2, Mark: 3})
	}
	return l
}

// known is a heap with a thread's cache, and what others there are.
type known struct {
	name   string
	h      api.Heap
	c      api.Lists
	others []api.Lists
}

// whole tells whether the heap is whole, with all caches, the thread's among them.
func (k known) whole(h api.Heap, c api.Lists) bool {
	return heap.Whole(h, append([]api.Lists{c}, k.others...)...)
}

// mixed is a heap of all kinds of pages, side by side, with cells of each class in Free, in the cache, and in another thread's.
func mixed() known {
	l := slices.Concat([]api.Page{small(0), small(1)}, run(1), []api.Page{free, small(2)}, run(3), []api.Page{free, free, small(2)}, run(2), []api.Page{free}, run(4), []api.Page{small(1), free, free, free, free, free})
	objects := map[int]api.Head{
		16: used(1), 22: {Used: true, Old: true, Done: true, N: 1, Born: 1 << 20, Mark: 1 << 20}, 36: used(2), 48: used(8), 88: used(7),
		96: used(40), 192: used(16), 240: used(63), 304: {Used: true, Old: true, N: 3, Born: 1, Mark: 2}, 316: used(3),
	}
	h := build(l, objects, api.Lists{{30, 18, 26}, {44, 32}, {176}})
	return known{"mixed", h, api.Lists{{20, 28}, {40}, {80}}, []api.Lists{{{24}, {308}, nil}, {nil, {312}, {184}}}}
}

// full is a heap of so many pages of one class, without a cell that is free.
func full(class, pages int) api.Heap {
	objects := map[int]api.Head{}
	l := slices.Repeat([]api.Page{small(class)}, pages)
	for i, c := range cellsOf(l) {
		objects[c.at] = api.Head{Used: true, Old: i%2 == 0, N: c.words - 1}
	}
	return build(l, objects, api.Lists{})
}

// large64 is a heap of 64 pages, all of them taken by large objects, but those that are given.
func large64(freed ...int) api.Heap {
	objects := map[int]api.Head{}
	l := slices.Repeat([]api.Page{large(1)}, 64)
	for page := range l {
		objects[16+16*page] = used(8 + page%8)
	}
	for _, page := range freed {
		l[page] = free
		delete(objects, 16+16*page)
	}
	return build(l, objects, api.Lists{})
}

// good are heaps that may be with their cache.
func good() []known {
	m := mixed()
	gap := mixed()
	gap.name, gap.others = "mixed, with cells that none tells of", nil
	bare := mixed()
	bare.name, bare.h.Free, bare.c, bare.others = "mixed, with nothing told of", api.Lists{}, api.Lists{}, nil
	cached := mixed()
	cached.name, cached.c, cached.h.Free = "mixed, with all told of by the cache", api.Lists{{30, 18, 26, 20, 28}, {44, 32, 40}, {176, 80}}, api.Lists{}
	untold := mixed()
	untold.name, untold.c, untold.h.Free = "mixed, with all told of by Free", api.Lists{}, api.Lists{{20, 28, 30, 18, 26}, {40, 32, 44}, {80, 176}}
	two := build([]api.Page{small(1), small(1)}, map[int]api.Head{24: used(3)}, api.Lists{nil, {40, 16, 44, 20, 28}, nil})
	return []known{
		m, gap, bare, cached, untold,
		{"one free page", build([]api.Page{free}, nil, api.Lists{}), api.Lists{}, nil},
		{"64 free pages", build(slices.Repeat([]api.Page{free}, 64), nil, api.Lists{}), api.Lists{}, nil},
		{"63 taken pages, and the last one", large64(63), api.Lists{}, nil},
		{"64 taken pages", large64(), api.Lists{}, nil},
		{"many free pages, none beside another", large64(1, 3, 5, 8, 10, 30, 32, 61, 63), api.Lists{}, nil},
		{"pairs of free pages", large64(7, 40, 41, 62, 63), api.Lists{}, nil},
		{"three at the end", large64(1, 2, 30, 61, 62, 63), api.Lists{}, nil},
		{"full of class 0", full(0, 3), api.Lists{}, nil},
		{"full of class 1", full(1, 64), api.Lists{}, nil},
		{"full of class 2", full(2, 1), api.Lists{}, nil},
		{"five cells of class 1", two, api.Lists{nil, nil, nil}, []api.Lists{{nil, {32, 36}, nil}}},
		{"nil and empty lists", build([]api.Page{small(2), free}, map[int]api.Head{16: used(4), 24: used(5)}, api.Lists{{}, nil, {}}), api.Lists{nil, {}, {}}, nil},
	}
}

// bad are heaps that may not be with their cache: each of what heap's chapter asks for is missing in one at least.
func bad() []known {
	changed := func(name string, change func(k *known)) known {
		k := mixed()
		change(&k)
		k.name = name
		return k
	}
	first := func(name string, a, w int) known {
		return changed(name, func(k *known) { k.h.W[a-16] = w })
	}
	page := func(name string, at int, p api.Page) known {
		return changed(name, func(k *known) { k.h.Pages[at] = p })
	}
	inFree := func(name string, class, a int) known {
		return changed(name, func(k *known) { k.h.Free[class] = append(k.h.Free[class], a) })
	}
	cached := func(name string, class, a int) known {
		return changed(name, func(k *known) { k.c[class] = append(k.c[class], a) })
	}
	return []known{
		{name: "nothing at all"}, {name: "nothing, with a cache", c: api.Lists{{16}}},
		{name: "empty", h: api.Heap{W: []int{}, Pages: []api.Page{}, Cards: []bool{}}},
		{name: "65 pages", h: build(slices.Repeat([]api.Page{free}, 65), nil, api.Lists{})},
		changed("no words", func(k *known) { k.h.W = nil }), changed("no pages", func(k *known) { k.h.Pages = nil }), changed("no cards", func(k *known) { k.h.Cards = nil }),
		changed("a word less", func(k *known) { k.h.W = k.h.W[1:] }), changed("a page of words more", func(k *known) { k.h.W = append(k.h.W, make([]int, 16)...) }),
		changed("a page more", func(k *known) { k.h.Pages = append(k.h.Pages, free) }), changed("a page less", func(k *known) { k.h.Pages = k.h.Pages[:len(k.h.Pages)-1] }),
		changed("a card less", func(k *known) { k.h.Cards = k.h.Cards[1:] }), changed("a card more", func(k *known) { k.h.Cards = append(k.h.Cards, true) }),
		page("a free page with an Arg", 3, api.Page{Kind: 0, Arg: 1}), page("a kind that there is not", 3, api.Page{Kind: 4}), page("a page that goes on behind none", 3, rest), page("a large object of five", 2, large(5)), page("one that does not go on", 6, free), page("a class that there is not", 0, small(3)),
		first("a first word that is no head's", 30, 2), first("a word below 0", 16, -1), first("a large object that is not used", 48, 0), first("as many fields as are another class's", 36, word(used(4))), first("as many fields as are of another run", 192, word(used(8))), first("no fields", 16, word(used(0))),
		first("a cell of Free that is used", 30, word(used(1))), first("a cell of the cache that is used", 20, word(used(1))),
		inFree("Free tells of an address twice", 0, 30), inFree("Free tells of what the cache does", 0, 28), inFree("Free tells of an address below all", 0, 0), inFree("of one in the midst of a cell", 0, 19), inFree("of one on a free page", 0, 64), inFree("of one of another class", 0, 44), inFree("of an object", 2, 88), inFree("of one far off", 1, math.MinInt),
		cached("the cache tells of an address twice", 0, 20), cached("the cache tells of what Free does", 2, 176), cached("the cache tells of an address behind all", 2, 16+16*22), cached("the midst of a cell", 1, 33), cached("a free page", 2, 64), cached("one of another class", 1, 80), cached("an object", 0, 16), cached("a large object", 2, 48), cached("far off", 1, math.MaxInt),
	}
}

// check holds Take and Room of a heap that may be with its cache against the chapter's words, for one head.
func check(t *testing.T, k known, x api.Head) answer {
	t.Helper()
	want := say(k.h, k.c, x)
	got := take(k.h, k.c, x)
	if !got.is(want) {
		t.Fatalf("%s: Take(%v, %v, %v): %v; want %v", k.name, k.h, k.c, x, got, want)
	}
	if room := alloc.Room(k.h, k.c, x.N); room != (want.e == api.OK) {
		t.Fatalf("%s: Room(%v, %v, %d): %t", k.name, k.h, k.c, x.N, room)
	}
	return got
}

// step is an object taken of a heap and a cache, and what is told then, by hand: where it begins, pages, Free, the cache, and which first words are cleared beside the cell's own.
type step struct {
	name    string
	h       api.Heap
	c       api.Lists
	fields  int
	at      int
	pages   []api.Page
	free, d api.Lists
	cleared []int
	e       api.Errno
}

// P8.1: where a small cell is taken, told by hand: of the cache, of Free, of the first free page, or nowhere.
func TestTakeSmallKnown(t *testing.T) {
	one := []api.Page{small(1), free}
	objects := map[int]api.Head{16: used(2)}
	l := func(a ...int) api.Lists { return api.Lists{nil, a, nil} }
	taken := map[int]api.Head{16: used(4), 24: used(7), 32: used(9), 64: used(8)}
	tail := slices.Concat([]api.Page{small(2)}, run(1), []api.Page{free}, run(1), []api.Page{free})
	split := func(class int) []api.Page { return slices.Concat(tail[:2], []api.Page{small(class)}, tail[3:]) }
	end := slices.Concat(tail[:2], tail[1:2], tail[3:])
	ends := map[int]api.Head{16: used(4), 24: used(7), 32: used(9), 48: used(15), 64: used(8)}
	for _, c := range []step{
		{"the cache's only one", build(one, objects, l(20)), l(24), 2, 24, one, l(20), l(), nil, api.OK},
		{"the cache's last one", build(one, objects, l(20)), l(28, 24), 3, 24, one, l(20), l(28), nil, api.OK},
		{"the cache's last one of three, the least one", build(one, objects, l()), l(28, 24, 20), 3, 20, one, l(), l(28, 24), nil, api.OK},
		{"Free's only one", build(one, objects, l(24)), l(), 2, 24, one, l(), l(), nil, api.OK},
		{"two of Free: the last one is moved first", build(one, objects, l(24, 20)), l(), 2, 24, one, l(), l(20), nil, api.OK},
		{"three of Free: two are moved", build(one, objects, l(28, 20, 24)), l(), 2, 20, one, l(28), l(24), nil, api.OK},
		{"six of Free: two are moved", build([]api.Page{small(1), small(1)}, map[int]api.Head{16: used(3), 44: used(2)}, l(20, 40, 28, 36, 24, 32)), l(), 3, 24, []api.Page{small(1), small(1)}, l(20, 40, 28, 36), l(32), nil, api.OK},
		{"none in Free, of the class: a page", build(one, objects, l()), l(), 2, 36, []api.Page{small(1), small(1)}, l(44, 40), l(32), []int{32, 36, 40, 44}, api.OK},
		{"other classes alone, in cache and Free", build(tail, map[int]api.Head{32: used(9), 64: used(8)}, api.Lists{nil, nil, {24}}), api.Lists{nil, nil, {16}}, 2, 52, split(1), api.Lists{nil, {60, 56}, {24}}, api.Lists{nil, {48}, {16}}, []int{48, 52, 56, 60}, api.OK},
		{"class 0, of the first free page", build(tail, taken, api.Lists{}), api.Lists{}, 1, 50, split(0), api.Lists{{62, 60, 58, 56, 54, 52}}, api.Lists{{48}}, []int{48, 50, 52, 54, 56, 58, 60, 62}, api.OK},
		{"class 1, of the first free page", build(tail, taken, api.Lists{}), api.Lists{}, 3, 52, split(1), l(60, 56), l(48), []int{48, 52, 56, 60}, api.OK},
		{"class 2, of the first free page", build(tail, taken, api.Lists{}), api.Lists{}, 7, 56, split(2), api.Lists{}, api.Lists{nil, nil, {48}}, []int{48, 56}, api.OK},
		{"the last page", build(end, ends, api.Lists{}), api.Lists{}, 4, 88, append(slices.Clone(end[:4]), small(2)), api.Lists{}, api.Lists{nil, nil, {80}}, []int{80, 88}, api.OK},
		{"no cell, and no page", build([]api.Page{small(1)}, map[int]api.Head{16: used(2), 20: used(2), 24: used(2), 28: used(2)}, l()), l(), 2, 0, nil, l(), l(), nil, api.ErrFull},
		{"cells of other classes alone, and no page", build([]api.Page{small(2), small(0)}, map[int]api.Head{32: used(1)}, api.Lists{{34, 36, 38, 40, 42}, nil, {16}}), api.Lists{{44, 46}, nil, {24}}, 2, 0, nil, l(), l(), nil, api.ErrFull},
		{"a cell in another's cache alone", build([]api.Page{small(1)}, objects, l()), l(), 2, 0, nil, l(), l(), nil, api.ErrFull},
	} {
		c.hold(t)
	}
}

// hold holds Take against what is told by hand, for each head with so many fields.
func (s step) hold(t *testing.T) {
	t.Helper()
	for _, x := range heads(s.fields) {
		want := answer{e: s.e}
		if s.e == api.OK {
			want = answer{clone(s.h), s.d, s.at, api.OK}
			want.h.Pages, want.h.Free = s.pages, s.free
			for _, a := range s.cleared {
				want.h.W[a-16] = 0
			}
			_, words, _ := sizes(s.fields)
			clear(want.h.W[s.at-16 : s.at-16+words])
			want.h.W[s.at-16] = word(x)
		}
		if got := take(s.h, s.c, x); !got.is(want) {
			t.Errorf("%s: Take of %v: %v; want %v", s.name, x, got, want)
		}
		if again := say(s.h, s.c, x); !again.is(want) {
			t.Errorf("the test's own words are wrong of %s, %v: %v; want %v", s.name, x, again, want)
		}
		if got := alloc.Room(s.h, s.c, s.fields); got != (s.e == api.OK) {
			t.Errorf("%s: Room: %t", s.name, got)
		}
	}
}

// P8.1: where a large object is taken, told by hand: the first run that is long enough, at the beginning, in the midst, at the end, or nowhere.
func TestTakeLargeKnown(t *testing.T) {
	for n := 1; n <= 4; n++ {
		free := func(n int) []api.Page { return slices.Repeat([]api.Page{free}, n) }
		at := func(parts ...[]api.Page) []api.Page { return slices.Concat(parts...) }
		wall := []api.Page{small(2)}
		for _, c := range []struct {
			name     string
			was      []api.Page
			page     int
			isnt     bool
			expected []api.Page
		}{
			{"just as long as the heap", free(n), 0, false, run(n)},
			{"at the beginning", at(free(n), wall, free(n)), 0, false, at(run(n), wall, free(n))},
			{"at the beginning of more", at(free(n+2), wall), 0, false, at(run(n), free(2), wall)},
			{"in the midst", at(wall, free(n-1), wall, free(n), wall, free(n)), n + 1, false, at(wall, free(n-1), wall, run(n), wall, free(n))},
			{"in the midst, behind shorter ones", at(free(n-1), wall, free(n-1), run(2), free(n+1), wall), 2*n + 1, false, at(free(n-1), wall, free(n-1), run(2), run(n), free(1), wall)},
			{"at the end", at(wall, free(n-1), run(4), free(n)), n + 4, false, at(wall, free(n-1), run(4), run(n))},
			{"at the end, behind all others", at(slices.Repeat(wall, 64-n), free(n)), 64 - n, false, at(slices.Repeat(wall, 64-n), run(n))},
			{"no run that is long enough", at(free(n-1), wall, free(n-1), run(3), free(n-1)), 0, true, nil},
			{"no free page", at(run(4), wall, run(2)), 0, true, nil},
			{"none beside another's", at(free(n-1), wall, free(n-1)), 0, true, nil},
			{"too few at all", at(free(n-1), wall), 0, true, nil},
		} {
			h := build(c.was, objectsOf(c.was), api.Lists{})
			for _, fields := range []int{max(8, 16*n-16), 16*n - 5, 16*n - 1} {
				s := step{name: c.name, h: h, fields: fields, at: 16 + 16*c.page, pages: c.expected}
				if c.isnt {
					s.e = api.ErrFull
				}
				s.hold(t)
			}
		}
	}
}

// objectsOf are objects in all cells of pages.
func objectsOf(l []api.Page) map[int]api.Head {
	objects := map[int]api.Head{}
	for _, c := range cellsOf(l) {
		objects[c.at] = used(c.words - 1)
	}
	return objects
}

// P8.1: cells of a large object's are never taken from cache or Free, nor do these change.
func TestLargeLeavesLists(t *testing.T) {
	k := mixed()
	for fields := 8; fields <= 63; fields++ {
		got := check(t, k, used(fields))
		if !sameLists(got.c, k.c) || !sameLists(got.h.Free, k.h.Free) {
			t.Errorf("%d fields: %v, %v", fields, got.h.Free, got.c)
		}
		if want := []int{64, 144, 320, 320}[fields/16]; got.at != want {
			t.Errorf("%d fields: at %d; want %d", fields, got.at, want)
		}
	}
}

// P8.1: small ones of the mixed heap, which is told by hand.
func TestMixedKnown(t *testing.T) {
	for _, c := range []struct{ fields, at int }{{1, 28}, {2, 40}, {3, 40}, {4, 80}, {7, 80}, {8, 64}, {15, 64}, {16, 144}, {31, 144}, {32, 320}, {47, 320}, {48, 320}, {63, 320}} {
		if got := check(t, mixed(), used(c.fields)); got.at != c.at || got.e != api.OK {
			t.Errorf("%d fields: at %d, %d", c.fields, got.at, got.e)
		}
	}
	k := mixed()
	for _, at := range []int{28, 20, 18, 26, 30, 66, 64, 70} { // of the cache; two times of Free; of a page
		got := check(t, k, used(1))
		if got.at != at {
			t.Errorf("of class 0: at %d; want %d", got.at, at)
		}
		k.h, k.c = got.h, got.c
	}
}

// P8.1, P8.2: all heaps at hand, all numbers of fields, all that a head may be.
func TestTakeAndRoom(t *testing.T) {
	for _, k := range good() {
		for fields := 1; fields <= 63; fields++ {
			for i, x := range heads(fields) {
				if i == 0 || len(k.h.Pages) < 64 || fields%9 == 7 {
					check(t, k, x)
				}
			}
		}
	}
}

// laid is a heap of pages, each cell of which is, in turn, by a pattern: used, told of by Free, by the cache, by another cache, or by none. A large one is used.
func laid(l []api.Page, pattern string) known {
	objects, free := map[int]api.Head{}, api.Lists{}
	k := known{name: fmt.Sprint(l, pattern), others: []api.Lists{{}}}
	next := 0
	for _, c := range cellsOf(l) {
		if c.class == 3 {
			objects[c.at] = used(c.words - 1)
			continue
		}
		switch pattern[next%len(pattern)] {
		case 'u':
			objects[c.at] = api.Head{Used: true, Old: next%2 == 0, N: c.words - 1, Mark: next}
		case 'f':
			free[c.class] = append(free[c.class], c.at)
		case 'c':
			k.c[c.class] = append(k.c[c.class], c.at)
		case 'o':
			k.others[0][c.class] = append(k.others[0][c.class], c.at)
		}
		next++
	}
	k.h = build(l, objects, free)
	return k
}

// shortPages are all pages that may be, and are as many.
func shortPages(n int) [][]api.Page {
	if n == 0 {
		return [][]api.Page{nil}
	}
	var all [][]api.Page
	for _, first := range [][]api.Page{{free}, {small(0)}, {small(1)}, {small(2)}, run(1), run(2), run(3), run(4)} {
		if len(first) > n {
			continue
		}
		for _, more := range shortPages(n - len(first)) {
			all = append(all, slices.Concat(first, more))
		}
	}
	return all
}

// P8.1, P8.2: all short heaps, with cells that are used, and told of, in many ways.
func TestShort(t *testing.T) {
	for n := 1; n <= 4; n++ {
		for i, l := range shortPages(n) {
			for _, pattern := range []string{"u", "f", "c", "o", "-", "uf", "fuc", "uuuc", "ufofc-", "ouf", "uuuuuuf"} {
				k := laid(l, pattern)
				for j, fields := range []int{1, 2, 3, 4, 7, 8, 15, 16, 31, 32, 47, 48, 63} {
					check(t, k, heads(fields)[(i+j)%10])
				}
			}
		}
	}
}

// P8.1: of five pages and more, free ones and others in all ways: the first run is taken.
func TestRuns(t *testing.T) {
	for n := 5; n <= 9; n++ {
		for mask := range 1 << n {
			var l []api.Page
			for page := range n {
				l = append(l, []api.Page{free, large(1)}[mask>>page&1])
			}
			k := known{name: "runs", h: build(l, objectsOf(l), api.Lists{})}
			for _, fields := range []int{1, 8, 20, 40, 60} {
				check(t, k, used(fields))
			}
		}
	}
}

// P8.1, R2, R4: heads that may not be, that are not used, and that have no fields, or too many: ErrArg, in heaps with room, and without.
func TestWrongHeads(t *testing.T) {
	for _, k := range good() {
		for _, x := range wrongHeads() {
			if got := take(k.h, k.c, x); !got.is(answer{e: api.ErrArg}) {
				t.Fatalf("%s: Take of %v: %v", k.name, x, got)
			}
		}
	}
}

// P8.1, R2, R4: heaps that may not be with the cache: ErrArg, whatever the head; and no room.
func TestWrongHeaps(t *testing.T) {
	l := wrongHeads()
	for _, fields := range []int{1, 2, 3, 5, 7, 8, 15, 16, 31, 32, 47, 48, 63} {
		l = append(l, heads(fields)...)
	}
	for _, k := range bad() {
		for _, x := range l {
			if got := take(k.h, k.c, x); !got.is(answer{e: api.ErrArg}) {
				t.Fatalf("%s: Take of %v: %v", k.name, x, got)
			}
			if alloc.Room(k.h, k.c, x.N) {
				t.Fatalf("%s: Room of %d", k.name, x.N)
			}
		}
	}
}

// P8.1: what is wrong with the cache alone is told, where the heap alone may be; and a heap that may be with it is not asked for its other cells.
func TestCacheAlone(t *testing.T) {
	alone := 0
	for _, k := range bad() {
		if !heap.May(k.h) {
			continue
		}
		alone++
		if got := take(k.h, api.Lists{}, used(5)); got.e != api.OK {
			t.Errorf("%s: without the cache: %d", k.name, got.e)
		}
		if got := take(k.h, k.c, used(5)); !got.is(answer{e: api.ErrArg}) {
			t.Errorf("%s: with it: %v", k.name, got)
		}
	}
	if alone < 9 {
		t.Errorf("of the heaps that may not be %d may be alone", alone)
	}
	k := mixed()
	if !heap.May(k.h, k.c) || heap.Whole(k.h, k.c) {
		t.Fatalf("mixed is whole without other caches, or may not be")
	}
	check(t, k, used(5))
}

// P8.2: Room of numbers of fields with which no head may be, and of all that are small: no.
func TestRoomOfNone(t *testing.T) {
	for _, k := range good() {
		for fields := -300; fields <= 0; fields++ {
			if alloc.Room(k.h, k.c, fields) {
				t.Errorf("%s: Room of %d", k.name, fields)
			}
		}
		for fields := 64; fields <= 300; fields++ {
			if alloc.Room(k.h, k.c, fields) {
				t.Errorf("%s: Room of %d", k.name, fields)
			}
		}
		for _, fields := range far {
			if alloc.Room(k.h, k.c, fields) {
				t.Errorf("%s: Room of %d", k.name, fields)
			}
		}
	}
}

// P8.2: Room of each number of fields, of heaps that are told by hand.
func TestRoomKnown(t *testing.T) {
	wide := build([]api.Page{free, free, free, large(1)}, map[int]api.Head{64: used(9)}, api.Lists{})
	one := build([]api.Page{small(1), free}, map[int]api.Head{16: used(2)}, api.Lists{nil, {20}, nil})
	none := build([]api.Page{small(1)}, map[int]api.Head{16: used(2)}, api.Lists{nil, {20}, nil})
	for _, c := range []struct {
		name        string
		h           api.Heap
		c           api.Lists
		least, most int
	}{
		{"three free pages", wide, api.Lists{}, 1, 47}, {"one", one, api.Lists{}, 1, 15}, {"a cell of Free", none, api.Lists{}, 2, 3}, {"a cell of the cache", none, api.Lists{nil, {28}, nil}, 2, 3},
		{"no cell", full(2, 1), api.Lists{}, 1, 0}, {"64 free pages", build(slices.Repeat([]api.Page{free}, 64), nil, api.Lists{}), api.Lists{}, 1, 63},
		{"no page", large64(), api.Lists{}, 1, 0}, {"pages, none beside another", large64(0, 2, 63), api.Lists{}, 1, 15},
	} {
		for fields := -1; fields <= 65; fields++ {
			if got, want := alloc.Room(c.h, c.c, fields), c.least <= fields && fields <= c.most; got != want {
				t.Errorf("%s: Room of %d: %t", c.name, fields, got)
			}
		}
	}
}

// P8.1: words of the cell are noughts, and the first one is x's, whatever stood there: in a cell of each class, of the cache and of Free, of a page, and of each run of pages. No word beside them changes, but first words of a page that is split.
func TestWordsBehind(t *testing.T) {
	for fields := 1; fields <= 63; fields++ {
		class, words, _ := sizes(fields)
		room := build([]api.Page{small(0), small(1), small(2), free, free, free, free, free}, map[int]api.Head{18: used(1), 36: used(2), 56: used(4)}, api.Lists{{22, 20}, {40}, {48}})
		cached := known{"of the cache", room, api.Lists{{24}, {44}, nil}, nil}
		pages := known{"of a page", build(slices.Repeat([]api.Page{free}, 7), nil, api.Lists{}), api.Lists{}, nil}
		for _, k := range []known{cached, {"of Free", room, api.Lists{}, nil}, pages} {
			for _, x := range heads(fields) {
				got := check(t, k, x)
				for i, w := range got.h.W {
					a := 16 + i
					switch {
					case a == got.at:
						if w != word(x) {
							t.Fatalf("%s: the first word of %v is %d", k.name, x, w)
						}
					case got.at < a && a < got.at+words:
						if w != 0 {
							t.Fatalf("%s: the word at %d, of %v at %d, is %d", k.name, a, x, got.at, w)
						}
					case class < 3 && k.name == "of a page" && i < 16 && i%words == 0:
						if w != 0 {
							t.Fatalf("%s: the first word at %d is %d", k.name, a, w)
						}
					case w != k.h.W[i]:
						t.Fatalf("%s: the word at %d, beside %v at %d, is %d", k.name, a, x, got.at, w)
					}
				}
			}
		}
	}
}

// taken is an object that was taken, and what its words are.
type taken struct {
	at    int
	words []int
}

// P8.3: one object behind the other, of several threads, till there is no room: none is where another is, each is as it was, what was whole is whole, and ErrFull is told just where there is no room.
func TestTillFull(t *testing.T) {
	fields := []int{1, 8, 3, 20, 5, 2, 1, 63, 7, 40, 1, 1, 9, 4, 3, 33, 1, 2}
	for _, pages := range []int{1, 2, 3, 5, 9, 17, 64} {
		for from := range fields {
			h, _ := heap.New(pages)
			for i := range h.W {
				h.W[i] = noise(from + i)
			}
			fill(t, known{h: h, others: make([]api.Lists, 3)}, func(i int) int { return fields[(from+i)%len(fields)] })
		}
	}
	for _, k := range good() {
		if k.whole(k.h, k.c) {
			k.others = append(k.others, k.c)
			fill(t, k, func(i int) int { return fields[i*5%len(fields)] })
		}
	}
}

// fill takes objects with so many fields by the caches of k's others, in turn, till there has been no room as often as there are numbers of fields, for each cache.
func fill(t *testing.T, k known, fields func(i int) int) {
	t.Helper()
	h, caches := k.h, k.others
	var objects []taken
	for _, a := range heap.Used(h) {
		x, _ := heap.Head(h, a)
		_, words, _ := sizes(x.N)
		objects = append(objects, taken{a, slices.Clone(h.W[a-16 : a-16+words])})
	}
	for i, fullFor := 0, 0; fullFor < 18*len(caches); i++ {
		n, thread := fields(i/len(caches)), i%len(caches)
		class, words, pages := sizes(n)
		room := firstRun(h.Pages, max(1, pages)) >= 0
		if class < 3 && len(caches[thread][class])+len(h.Free[class]) > 0 {
			room = true
		}
		if alloc.Room(h, caches[thread], n) != room {
			t.Fatalf("Room(%v, %v, %d): %t", h, caches[thread], n, !room)
		}
		got := take(h, caches[thread], api.Head{Used: true, N: n, Born: i})
		if !room {
			if !got.is(answer{e: api.ErrFull}) {
				t.Fatalf("Take of %d, where there is no room: %v", n, got)
			}
			fullFor++
			continue
		}
		if got.e != api.OK {
			t.Fatalf("Take of %d, where there is room: %v", n, got)
		}
		fullFor = 0
		h, caches[thread] = got.h, got.c
		if !heap.Whole(h, caches...) {
			t.Fatalf("whole no more: %v, %v", h, caches)
		}
		for _, o := range objects {
			if got.at < o.at+len(o.words) && o.at < got.at+words {
				t.Fatalf("%d words at %d, where %d are at %d", words, got.at, len(o.words), o.at)
			}
			if !slices.Equal(h.W[o.at-16:o.at-16+len(o.words)], o.words) {
				t.Fatalf("the object at %d is another one", o.at)
			}
		}
		for f := range n { // its fields are written to, so that a later one that touched them would be seen
			h.W[got.at-16+1+f] = 1000*i + f + 1
		}
		objects = append(objects, taken{got.at, slices.Clone(h.W[got.at-16 : got.at-16+words])})
		if l := heap.Used(h); len(l) != len(objects) || !slices.Contains(l, got.at) {
			t.Fatalf("%d objects, of %d", len(l), len(objects))
		}
	}
}

// P8.3: what was whole is whole; what was not, is not; cards stay.
func TestWholeStays(t *testing.T) {
	for _, k := range good() {
		was := k.whole(k.h, k.c)
		for fields := 1; fields <= 63; fields++ {
			got := take(k.h, k.c, used(fields))
			if got.e != api.OK {
				continue
			}
			if k.whole(got.h, got.c) != was {
				t.Errorf("%s: whole, behind Take of %d: %t", k.name, fields, !was)
			}
			if !slices.Equal(got.h.Cards, k.h.Cards) {
				t.Errorf("%s: Take of %d: cards %v", k.name, fields, got.h.Cards)
			}
			x, e := heap.Head(got.h, got.at)
			if _, f := heap.Head(k.h, got.at); e != api.OK || x != used(fields) || f != api.ErrNone {
				t.Errorf("%s: Take of %d: the object at %d is %v, %d; and was there ahead: %d", k.name, fields, got.at, x, e, f)
			}
		}
	}
}

// roomy is k with room behind each list's last element; and a function that tells whether all of it, with that room, is as it was.
func roomy(k known) (known, func() bool) {
	whole := clone(k.h)
	whole.W = append(whole.W, 71, 72, 73)
	whole.Pages = append(whole.Pages, small(1), small(2))
	whole.Cards = append(whole.Cards, true, false, true)
	c := cloneLists(k.c)
	for class := range c {
		whole.Free[class] = append(whole.Free[class], 9001, 9002, 9003)
		c[class] = append(c[class], 9004, 9005, 9006)
	}
	was := answer{h: whole, c: c}.copied()
	kept := func() bool { return answer{h: whole, c: c}.is(was) }
	short := known{name: k.name, h: api.Heap{W: whole.W[:len(k.h.W)], Pages: whole.Pages[:len(k.h.Pages)], Cards: whole.Cards[:len(k.h.Cards)]}}
	for class := range c {
		short.h.Free[class] = whole.Free[class][:len(k.h.Free[class])]
		short.c[class] = c[class][:len(k.c[class])]
	}
	return short, kept
}

// parts are functions each of which writes over one list of a heap or a cache, and over the room behind its end.
func parts(h api.Heap, c api.Lists) []func() {
	words := func(l []int) func() {
		return func() {
			for i := range l[:cap(l)] {
				l[:cap(l)][i] = -77
			}
		}
	}
	all := []func(){words(h.W), words(h.Free[0]), words(h.Free[1]), words(h.Free[2]), words(c[0]), words(c[1]), words(c[2])}
	all = append(all, func() {
		for i := range h.Pages[:cap(h.Pages)] {
			h.Pages[:cap(h.Pages)][i] = api.Page{Kind: 77, Arg: 77}
		}
	})
	return append(all, func() {
		for i := range h.Cards[:cap(h.Cards)] {
			h.Cards[:cap(h.Cards)][i] = !h.Cards[:cap(h.Cards)][i]
		}
	})
}

// waysOf are numbers of fields that are taken in each way: small ones and large ones.
var waysOf = []int{1, 3, 7, 8, 20, 40, 63}

// R3: what is handed in stays as it was, also behind its end, and what stands there changes no answer.
func TestHandedIn(t *testing.T) {
	for _, k := range append(good(), bad()...) {
		for _, fields := range append(waysOf, 0, 64) {
			short, kept := roomy(k)
			want := take(k.h, k.c, used(fields))
			if got := take(short.h, short.c, used(fields)); !got.is(want) {
				t.Errorf("%s: Take of %d hangs on what stands behind: %v", k.name, fields, got)
			}
			if alloc.Room(short.h, short.c, fields) != (want.e == api.OK) {
				t.Errorf("%s: Room of %d hangs on what stands behind", k.name, fields)
			}
			if !kept() {
				t.Fatalf("%s: %d fields: what was handed in is another one", k.name, fields)
			}
		}
	}
}

// R3: what is answered is the caller's own, in words, pages, lists, cards and cache: written over it changes nothing of what was handed in, nor of another answer; nor the other way round.
func TestAnsweredOwn(t *testing.T) {
	for _, k := range good() {
		for _, fields := range waysOf {
			short, kept := roomy(k)
			first := take(short.h, short.c, used(fields))
			second := take(short.h, short.c, used(fields))
			if first.e != api.OK {
				continue
			}
			want := second.copied()
			for _, spoil := range parts(first.h, first.c) {
				spoil()
			}
			if !kept() || !second.is(want) {
				t.Fatalf("%s: what Take of %d answered is shared", k.name, fields)
			}
			third := take(second.h, second.c, used(1))
			kth := third.copied()
			for _, spoil := range parts(short.h, short.c) {
				spoil()
			}
			if !second.is(want) || !third.is(kth) {
				t.Fatalf("%s: what Take of %d was handed is shared", k.name, fields)
			}
			for _, spoil := range parts(second.h, second.c) {
				spoil()
			}
			if !third.is(kth) {
				t.Fatalf("%s: what was answered, and handed in, is shared", k.name)
			}
		}
	}
}

// R3: no two lists of one answer share memory: each of them written over, with the room behind its end, changes none but itself.
func TestAnswersApart(t *testing.T) {
	for _, k := range good() {
		for _, fields := range waysOf {
			for i := range 9 {
				got := take(k.h, k.c, used(fields))
				if got.e != api.OK {
					continue
				}
				parts(got.h, got.c)[i]()
				again := take(k.h, k.c, used(fields))
				if n := differ(got, again); n > 1 {
					t.Errorf("%s: of what Take of %d answered %d lists changed, not one", k.name, fields, n)
				}
			}
		}
	}
}

// differ is in how many lists two answers differ.
func differ(a, b answer) int {
	n := 0
	for _, is := range []bool{slices.Equal(a.h.W, b.h.W), slices.Equal(a.h.Pages, b.h.Pages), slices.Equal(a.h.Cards, b.h.Cards),
		slices.Equal(a.h.Free[0], b.h.Free[0]), slices.Equal(a.h.Free[1], b.h.Free[1]), slices.Equal(a.h.Free[2], b.h.Free[2]),
		slices.Equal(a.c[0], b.c[0]), slices.Equal(a.c[1], b.c[1]), slices.Equal(a.c[2], b.c[2])} {
		if !is {
			n++
		}
	}
	return n
}

// R3: Free and cache that were handed in on one piece of memory, one behind the other, or the cache with its room where Free is.
func TestSharedAhead(t *testing.T) {
	l := []api.Page{small(1), small(1), free}
	objects := map[int]api.Head{16: used(3)}
	for _, c := range []struct{ freeFrom, freeTo, from, to int }{{0, 4, 4, 6}, {0, 6, 0, 0}, {2, 6, 0, 2}, {0, 3, 3, 3}, {1, 1, 0, 1}, {0, 0, 0, 0}} {
		all := []int{20, 24, 28, 36, 40, 44, 32}
		h := build(l, objects, api.Lists{})
		h.Free[1] = all[c.freeFrom:c.freeTo]
		k := known{name: "shared", h: h, c: api.Lists{nil, all[c.from:c.to], nil}}
		apart := known{name: "apart", h: clone(h), c: cloneLists(k.c)}
		for _, fields := range []int{2, 1, 7, 12} {
			if got, want := check(t, k, used(fields)), check(t, apart, used(fields)); !got.is(want) {
				t.Errorf("%v: %d fields: %v; want %v", c, fields, got, want)
			}
			if !slices.Equal(all, []int{20, 24, 28, 36, 40, 44, 32}) {
				t.Fatalf("%v: %d fields: what was handed in is %v", c, fields, all)
			}
		}
	}
}

// R5: what is asked again is answered alike, whatever was asked between.
func TestAskedAgain(t *testing.T) {
	k := mixed()
	want := map[int]answer{}
	for _, fields := range waysOf {
		want[fields] = check(t, k, used(fields)).copied()
	}
	for _, other := range append(bad(), good()...) {
		for _, fields := range append(waysOf, 0, 64, math.MaxInt) {
			take(other.h, other.c, used(fields))
			alloc.Room(other.h, other.c, fields)
		}
		for _, fields := range waysOf {
			if got := take(k.h, k.c, used(fields)); !got.is(want[fields]) {
				t.Fatalf("behind %s: Take of %d: %v", other.name, fields, got)
			}
		}
	}
}

// The chapter's example.
func TestExample(t *testing.T) {
	h, _ := heap.New(1)
	got := take(h, api.Lists{}, used(3))
	if got.at != 20 || got.e != api.OK || !sameLists(got.c, api.Lists{nil, {16}, nil}) || !sameLists(got.h.Free, api.Lists{nil, {28, 24}, nil}) {
		t.Errorf("%v", got)
	}
	if got.h.Pages[0] != small(1) || got.h.W[4] != 25 || !alloc.Room(h, api.Lists{}, 3) {
		t.Errorf("%v", got.h)
	}
}
