package reap_test

import (
	"fmt"
	"math"
	"slices"
	"testing"

	"ragpicker/alloc"
	"ragpicker/api"
	"ragpicker/heap"
	"ragpicker/reap"
)

var (
	free = api.Page{Kind: api.PageFree}
	rest = api.Page{Kind: api.PageRest}
)

func small(class int) api.Page { return api.Page{Kind: api.PageSmall, Arg: class} }
func large(n int) api.Page     { return api.Page{Kind: api.PageLarge, Arg: n} }

// run are all pages of a large object of n pages.
func run(n int) []api.Page {
	return append([]api.Page{large(n)}, slices.Repeat([]api.Page{rest}, n-1)...)
}

// lots are so many pages that are free.
func lots(n int) []api.Page { return slices.Repeat([]api.Page{free}, n) }

// used is a head with so many fields, and nothing else.
func used(n int) api.Head { return api.Head{Used: true, N: n} }

// word is a head's word, as chapter 1 says it.
func word(x api.Head) int {
	w := 0
	for i, is := range []bool{x.Used, x.Old, x.Done} {
		if is {
			w += 1 << i
		}
	}
	return w + 8*x.N + 1024*x.Born + 4294967296*x.Mark
}

// noise is a word that nobody asks about: many of them look like heads, or like addresses; none is 0.
func noise(a int) int {
	return []int{word(used(1)), -1, 7, word(used(5)), 16, word(used(40)), math.MinInt, math.MaxInt, 18, word(used(2)), 2, 1}[a%12]
}

// span is a cell: where it begins, how many words are its, which class it is of (3, if it is large), and on which page.
type span struct{ at, words, class, page int }

// cellsOf says again where cells begin on pages that may be.
func cellsOf(l []api.Page) []span {
	var all []span
	for page, p := range l {
		at := 16 + 16*page
		switch p.Kind {
		case 1:
			words := []int{2, 4, 8}[p.Arg]
			for next := at; next < at+16; next += words {
				all = append(all, span{next, words, p.Arg, page})
			}
		case 2:
			all = append(all, span{at, 16 * p.Arg, 3, page})
		}
	}
	return all
}

// build is a heap of pages, with objects by their addresses, clean and dirty cards in turn, and noise in all words but the first ones of cells.
func build(l []api.Page, objects map[int]api.Head, free api.Lists) api.Heap {
	h := api.Heap{Pages: slices.Clone(l), Free: cloneLists(free)}
	for i := range 16 * len(l) {
		h.W = append(h.W, noise(16+i))
	}
	for _, c := range cellsOf(l) {
		h.W[c.at-16] = word(objects[c.at])
	}
	for i := range 2 * len(l) {
		h.Cards = append(h.Cards, i%3 != 1)
	}
	return h
}

func cloneLists(l api.Lists) api.Lists {
	for class := range l {
		l[class] = slices.Clone(l[class])
	}
	return l
}

func clone(h api.Heap) api.Heap {
	return api.Heap{W: slices.Clone(h.W), Pages: slices.Clone(h.Pages), Free: cloneLists(h.Free), Cards: slices.Clone(h.Cards)}
}

func sameLists(l, m api.Lists) bool {
	return slices.Equal(l[0], m[0]) && slices.Equal(l[1], m[1]) && slices.Equal(l[2], m[2])
}

// answer is what a call tells.
type answer struct {
	h api.Heap
	e api.Errno
}

func freed(h api.Heap, a int) answer {
	g, e := reap.Free(h, a)
	return answer{g, e}
}

func flushed(h api.Heap, c api.Lists) answer {
	g, e := reap.Flush(h, c)
	return answer{g, e}
}

func tidied(h api.Heap) answer {
	g, e := reap.Tidy(h)
	return answer{g, e}
}

func (a answer) copied() answer { return answer{clone(a.h), a.e} }

// is tells whether two answers are the same, but that lists without elements may be nil or empty (R6).
func (a answer) is(b answer) bool {
	return slices.Equal(a.h.W, b.h.W) && slices.Equal(a.h.Pages, b.h.Pages) && sameLists(a.h.Free, b.h.Free) && slices.Equal(a.h.Cards, b.h.Cards) && a.e == b.e
}

// sayBack says again how a page of the test's own heap is given back.
func sayBack(h *api.Heap, page int) {
	on := slices.DeleteFunc(cellsOf(h.Pages), func(c span) bool { return c.page != page || c.class == 3 })
	for _, c := range on {
		if !slices.Contains(h.Free[c.class], c.at) {
			return
		}
	}
	for _, c := range on {
		at := slices.Index(h.Free[c.class], c.at)
		h.Free[c.class] = slices.Delete(h.Free[c.class], at, at+1)
		h.Pages[page] = free
	}
}

// sayFree says again what the chapter says of Free, of a heap that may be.
func sayFree(h api.Heap, a int) answer {
	h = clone(h)
	for _, c := range cellsOf(h.Pages) {
		if c.at != a || h.W[a-16]%2 == 0 {
			continue
		}
		clear(h.W[a-16 : a-16+c.words])
		if c.class == 3 {
			copy(h.Pages[c.page:], lots(c.words/16))
		} else {
			h.Free[c.class] = append(h.Free[c.class], a)
			sayBack(&h, c.page)
		}
		return answer{h, api.OK}
	}
	return answer{e: api.ErrNone}
}

// sayFlush says again what the chapter says of Flush, of a heap that may be with c.
func sayFlush(h api.Heap, c api.Lists) answer {
	h = clone(h)
	for class := range c {
		h.Free[class] = append(h.Free[class], c[class]...)
	}
	for page := range h.Pages {
		sayBack(&h, page)
	}
	return answer{h, api.OK}
}

// heads are those with so many fields that may be, and are used.
func heads(n int) []api.Head {
	return []api.Head{
		used(n), {Used: true, Old: true, N: n}, {Used: true, Done: true, N: n}, {Used: true, N: n, Born: 1}, {Used: true, N: n, Mark: 1},
		{Used: true, Old: true, Done: true, N: n, Born: 9, Mark: 11}, {Used: true, Done: true, N: n, Born: 5, Mark: 5},
		{Used: true, N: n, Born: 1 << 20}, {Used: true, N: n, Mark: 1 << 20}, {Used: true, Old: true, Done: true, N: n, Born: 1 << 20, Mark: 1 << 20},
	}
}

// known is a heap with a thread's cache, and what others there are.
type known struct {
	name   string
	h      api.Heap
	c      api.Lists
	others []api.Lists
}

// whole tells whether the heap is whole, with all caches, the thread's among them.
func (k known) whole(h api.Heap, c api.Lists) bool {
	return heap.Whole(h, append([]api.Lists{c}, k.others...)...)
}

// mixed is a heap of all kinds of pages, side by side, with cells of each class in Free, in the cache, and in another thread's.
func mixed() known {
	l := slices.Concat([]api.Page{small(0), small(1)}, run(1), []api.Page{free, small(2)}, run(3), []api.Page{free, free, small(2)}, run(2), []api.Page{free}, run(4), []api.Page{small(1), small(2), small(0), small(1), free, small(2)})
	objects := map[int]api.Head{
		16: used(1), 22: {Used: true, Old: true, Done: true, N: 1, Born: 1 << 20, Mark: 1 << 20}, 36: used(2), 48: used(8), 88: used(7),
		96: used(40), 192: used(16), 240: used(63), 304: {Used: true, Old: true, N: 3, Born: 1, Mark: 2}, 316: used(3), 328: used(4),
		400: {Used: true, Done: true, N: 5, Mark: 9}, 408: used(6),
	}
	h := build(l, objects, api.Lists{{30, 18, 350, 26, 336, 344, 348}, {44, 360, 32}, {176, 320}})
	return known{"mixed", h, api.Lists{{20, 338, 342, 28}, {40, 364, 352}, {80}}, []api.Lists{{{24, 340, 346}, {308}, nil}, {nil, {312, 356}, {184}}}}
}

// alike is a heap of so many pages of one class, with all cells in lists by a pattern, as laid says it.
func alike(class, pages int, pattern string) known {
	return laid(slices.Repeat([]api.Page{small(class)}, pages), pattern)
}

// laid is a heap of pages, each cell of which is, in turn, by a pattern: used, told of by Free, by the cache, by another cache, or by none. A large one is used.
func laid(l []api.Page, pattern string) known {
	objects, free := map[int]api.Head{}, api.Lists{}
	k := known{name: fmt.Sprint(l, pattern), others: []api.Lists{{}}}
	next := 0
	for _, c := range cellsOf(l) {
		if c.class == 3 {
			objects[c.at] = used(c.words - 1)
			continue
		}
		switch pattern[next%len(pattern)] {
		case 'u':
			objects[c.at] = api.Head{Used: true, Old: next%2 == 0, N: c.words - 1, Mark: next}
		case 'f':
			free[c.class] = append(free[c.class], c.at)
		case 'c':
			k.c[c.class] = append(k.c[c.class], c.at)
		case 'o':
			k.others[0][c.class] = append(k.others[0][c.class], c.at)
		}
		next++
	}
	k.h = build(l, objects, free)
	return k
}

// patterns are ways in which cells are used, and told of.
var patterns = []string{"u", "f", "c", "o", "-", "uf", "ffu", "fuc", "fffc", "cf", "uuuc", "ufofc-", "ouf", "uuuuuuf", "fffffffu", "ccccccccfuff", "ffffccccffuffffoffff-fff"}

// shortPages are all pages that may be, and are as many.
func shortPages(n int) [][]api.Page {
	if n == 0 {
		return [][]api.Page{nil}
	}
	var all [][]api.Page
	for _, first := range [][]api.Page{{free}, {small(0)}, {small(1)}, {small(2)}, run(1), run(2), run(3), run(4)} {
		if len(first) > n {
			continue
		}
		for _, more := range shortPages(n - len(first)) {
			all = append(all, slices.Concat(first, more))
		}
	}
	return all
}

// good are heaps that may be with their cache.
func good() []known {
	m := mixed()
	gap := mixed()
	gap.name, gap.others = "mixed, with cells that none tells of", nil
	bare := mixed()
	bare.name, bare.h.Free, bare.c, bare.others = "mixed, with nothing told of", api.Lists{}, api.Lists{}, nil
	cached := mixed()
	cached.name, cached.c, cached.h.Free = "mixed, with all told of by the cache", sayFlushed(m), api.Lists{}
	untold := mixed()
	untold.name, untold.c, untold.h.Free = "mixed, with all told of by Free", api.Lists{}, sayFlushed(m)
	alone := mixed()
	alone.name, alone.c, alone.others = "mixed, with all told of by Free, of all threads", api.Lists{}, nil
	for _, c := range slices.Concat([]api.Lists{m.c}, m.others) {
		for class := range c {
			alone.h.Free[class] = append(alone.h.Free[class], c[class]...)
		}
	}
	all := []known{
		m, gap, bare, cached, untold, alone,
		{"one free page", build(lots(1), nil, api.Lists{}), api.Lists{}, nil},
		{"64 free pages", build(lots(64), nil, api.Lists{}), api.Lists{}, nil},
		{"nil and empty lists", build([]api.Page{small(2), free}, map[int]api.Head{16: used(4), 24: used(5)}, api.Lists{{}, nil, {}}), api.Lists{nil, {}, {}}, nil},
		laid(slices.Repeat(slices.Concat(run(4), run(2), run(1), run(1)), 8), "u"),
		laid(slices.Repeat(slices.Concat([]api.Page{small(0), free, small(1)}, run(1), []api.Page{small(2)}, run(3)), 8), "ffffffffcffcccfu"),
	}
	for class := range 3 {
		for _, pages := range []int{1, 3, 64} {
			for _, pattern := range []string{"u", "f", "c", "fc", "ffu", "cuuf-o"} {
				all = append(all, alike(class, pages, pattern))
			}
		}
	}
	return all
}

// sayFlushed are Free of k, with the cells of its cache behind.
func sayFlushed(k known) api.Lists {
	l := cloneLists(k.h.Free)
	for class := range l {
		l[class] = append(l[class], k.c[class]...)
	}
	return l
}

// bad are heaps that may not be with their cache: each of what heap's chapter asks for is missing in one at least. Those whose cache alone is wrong may be alone.
func bad() (wrong, alone []known) {
	changed := func(name string, change func(k *known)) known {
		k := mixed()
		change(&k)
		k.name = name
		return k
	}
	first := func(name string, a, w int) known {
		return changed(name, func(k *known) { k.h.W[a-16] = w })
	}
	page := func(name string, at int, p api.Page) known {
		return changed(name, func(k *known) { k.h.Pages[at] = p })
	}
	inFree := func(name string, class, a int) known {
		return changed(name, func(k *known) { k.h.Free[class] = append(k.h.Free[class], a) })
	}
	cached := func(name string, class, a int) known {
		return changed(name, func(k *known) { k.c[class] = append(k.c[class], a) })
	}
	wrong = []known{
		{name: "nothing at all"}, {name: "nothing, with a cache", c: api.Lists{{16}}},
		{name: "empty", h: api.Heap{W: []int{}, Pages: []api.Page{}, Cards: []bool{}}},
		{name: "65 pages", h: build(lots(65), nil, api.Lists{})},
		changed("no words", func(k *known) { k.h.W = nil }), changed("no pages", func(k *known) { k.h.Pages = nil }), changed("no cards", func(k *known) { k.h.Cards = nil }),
		changed("a word less", func(k *known) { k.h.W = k.h.W[1:] }), changed("a page of words more", func(k *known) { k.h.W = append(k.h.W, make([]int, 16)...) }),
		changed("a page more", func(k *known) { k.h.Pages = append(k.h.Pages, free) }), changed("a page less", func(k *known) { k.h.Pages = k.h.Pages[:len(k.h.Pages)-1] }),
		changed("a card less", func(k *known) { k.h.Cards = k.h.Cards[1:] }), changed("a card more", func(k *known) { k.h.Cards = append(k.h.Cards, true) }),
		page("a free page with an Arg", 3, api.Page{Kind: 0, Arg: 1}), page("a kind that there is not", 3, api.Page{Kind: 4}), page("a page that goes on behind none", 3, rest), page("a large object of five", 2, large(5)), page("one that does not go on", 6, free), page("a class that there is not", 0, small(3)),
		first("a first word that is no head's", 30, 2), first("a word below 0", 16, -1), first("a large object that is not used", 48, 0), first("as many fields as are another class's", 36, word(used(4))), first("as many fields as are of another run", 192, word(used(8))), first("no fields", 16, word(used(0))),
		first("a cell of Free that is used", 30, word(used(1))),
		inFree("Free tells of an address twice", 0, 30), inFree("Free tells of an address below all", 0, 0), inFree("of one in the midst of a cell", 0, 19), inFree("of one on a free page", 0, 64), inFree("of one of another class", 0, 44), inFree("of an object", 2, 88), inFree("of one far off", 1, math.MinInt),
	}
	alone = []known{
		first("a cell of the cache that is used", 20, word(used(1))), inFree("Free tells of what the cache does", 0, 28),
		cached("the cache tells of an address twice", 0, 20), cached("the cache tells of what Free does", 2, 176), cached("the cache tells of an address behind all", 2, 16+16*25), cached("the midst of a cell", 1, 33), cached("a free page", 2, 64), cached("one of another class", 1, 80), cached("an object", 0, 16), cached("a large object", 2, 48), cached("far off", 1, math.MaxInt),
		cached("0", 0, 0), cached("below 0", 1, -16), changed("the cache's cells of other classes", func(k *known) { k.c[0], k.c[2] = k.c[2], k.c[0] }),
	}
	return wrong, alone
}

// outcome is what is answered of a heap, by hand: its pages and Free, and which words are noughts.
type outcome struct {
	pages      []api.Page
	free       api.Lists
	from, upTo int
}

// of is the answer that has the outcome, of h.
func (o outcome) of(h api.Heap) answer {
	g := clone(h)
	g.Pages, g.Free = o.pages, o.free
	for a := o.from; a < o.upTo; a++ {
		g.W[a-16] = 0
	}
	return answer{g, api.OK}
}

// holdFree holds Free of a heap against what is told by hand, whatever the object's head.
func holdFree(t *testing.T, name string, h api.Heap, a, fields int, o outcome) {
	t.Helper()
	for _, x := range heads(fields) {
		h.W[a-16] = word(x)
		want := o.of(h)
		if got := freed(h, a); !got.is(want) {
			t.Errorf("%s: Free(%v, %d): %v; want %v", name, h, a, got, want)
		}
		if again := sayFree(h, a); !again.is(want) {
			t.Errorf("the test's own words are wrong of %s: %v; want %v", name, again, want)
		}
	}
}

// P9.1: small objects that are freed, told by hand: with others on their page, which stays, and with none, where it is given back.
func TestFreeSmallKnown(t *testing.T) {
	l := func(a ...int) api.Lists { return api.Lists{nil, a, nil} }
	one := []api.Page{small(1)}
	three := []api.Page{small(1), small(1), small(1)}
	at := func(l ...int) map[int]api.Head {
		objects := map[int]api.Head{}
		for _, a := range l {
			objects[a] = used(3)
		}
		return objects
	}
	seven := []int{46, 44, 32, 34, 38, 42, 36}
	for _, c := range []struct {
		name       string
		h          api.Heap
		at, fields int
		want       outcome
	}{
		{"another object, none on Free", build(one, at(16, 24), l()), 16, 2, outcome{one, l(16), 16, 20}},
		{"another object, and the rest on Free: behind these", build(one, at(16, 24), l(28, 20)), 24, 3, outcome{one, l(28, 20, 24), 24, 28}},
		{"no other object, and the rest on Free", build(one, at(16), l(20, 28, 24)), 16, 2, outcome{lots(1), l(), 16, 20}},
		{"the last cell", build(one, at(28), l(16, 24, 20)), 28, 2, outcome{lots(1), l(), 28, 32}},
		{"no other object, and a cell that Free does not tell of", build(one, at(16), l(20, 28)), 16, 2, outcome{one, l(20, 28, 16), 16, 20}},
		{"no other object, and Free tells of none", build(one, at(20), l()), 20, 3, outcome{one, l(20), 20, 24}},
		{"the first page, with cells of others on Free", build(three, at(24, 44), l(16, 36, 20, 52, 28, 40)), 24, 3, outcome{[]api.Page{free, small(1), small(1)}, l(36, 52, 40), 24, 28}},
		{"one in the midst", build(three, at(40, 60), l(52, 32, 20, 44, 16, 36, 56)), 40, 3, outcome{[]api.Page{small(1), free, small(1)}, l(52, 20, 16, 56), 40, 44}},
		{"the last page", build(three, at(48, 60, 16), l(20, 52, 40, 56, 24)), 48, 2, outcome{three, l(20, 52, 40, 56, 24, 48), 48, 52}},
		{"the last page, given back", build(three, at(48, 16), l(20, 60, 52, 40, 56, 24)), 48, 2, outcome{[]api.Page{small(1), small(1), free}, l(20, 40, 24), 48, 52}},
		{"other pages whose cells are all on Free stay", build(three, at(40, 48), l(28, 24, 20, 16, 32, 36, 44, 52, 56, 60)), 40, 2, outcome{[]api.Page{small(1), free, small(1)}, l(28, 24, 20, 16, 52, 56, 60), 40, 44}},
		{"they stay where its page does, too", build(three, at(40, 36), l(28, 24, 20, 16, 32, 48, 60, 56, 52)), 40, 2, outcome{three, l(28, 24, 20, 16, 32, 48, 60, 56, 52, 40), 40, 44}},
		{"class 0, with others", build([]api.Page{small(1), small(0)}, map[int]api.Head{40: used(1), 46: used(1)}, api.Lists{{36, 34}, {20}}), 40, 1, outcome{[]api.Page{small(1), small(0)}, api.Lists{{36, 34, 40}, {20}}, 40, 42}},
		{"class 0, with none", build([]api.Page{small(0), small(0)}, map[int]api.Head{40: used(1), 30: used(1)}, api.Lists{append([]int{18, 16}, seven...)}), 40, 1, outcome{[]api.Page{small(0), free}, api.Lists{{18, 16}}, 40, 42}},
		{"class 0, with none, and one that Free does not tell of", build([]api.Page{small(0), small(0)}, map[int]api.Head{40: used(1)}, api.Lists{append([]int{18, 16}, seven[1:]...)}), 40, 1, outcome{[]api.Page{small(0), small(0)}, api.Lists{append(append([]int{18, 16}, seven[1:]...), 40)}, 40, 42}},
		{"class 2, with another", build([]api.Page{small(2), free, small(2)}, map[int]api.Head{24: used(7), 16: used(4), 48: used(6)}, api.Lists{nil, nil, {56}}), 24, 5, outcome{[]api.Page{small(2), free, small(2)}, api.Lists{nil, nil, {56, 24}}, 24, 32}},
		{"class 2, with none", build([]api.Page{small(2), free, small(2)}, map[int]api.Head{24: used(7), 16: used(4), 56: used(6)}, api.Lists{nil, nil, {48}}), 56, 7, outcome{[]api.Page{small(2), free, free}, api.Lists{}, 56, 64}},
		{"class 2, with a cell that Free does not tell of", build([]api.Page{small(2)}, map[int]api.Head{24: used(7)}, api.Lists{}), 24, 4, outcome{[]api.Page{small(2)}, api.Lists{nil, nil, {24}}, 24, 32}},
		{"as many cells of the class on Free, of another page", build([]api.Page{small(2), small(2)}, map[int]api.Head{24: used(7), 32: used(5)}, api.Lists{nil, nil, {16}}), 32, 4, outcome{[]api.Page{small(2), small(2)}, api.Lists{nil, nil, {16, 32}}, 32, 40}},
		{"as many cells of other classes on Free", build([]api.Page{small(2), small(0)}, map[int]api.Head{16: used(7), 46: used(1)}, api.Lists{{32, 34, 36, 38, 40, 42, 44}}), 16, 4, outcome{[]api.Page{small(2), small(0)}, api.Lists{{32, 34, 36, 38, 40, 42, 44}, nil, {16}}, 16, 24}},
	} {
		holdFree(t, c.name, c.h, c.at, c.fields, c.want)
	}
}

// P9.1: a page stays, whose cell a cache alone tells of; and is given back, when that is flushed.
func TestFreeBesideCache(t *testing.T) {
	for class, words := range []int{2, 4, 8} {
		fields := words - 1
		for last := 16; last < 32; last += words {
			h := build([]api.Page{small(class)}, nil, api.Lists{})
			var c api.Lists
			for a := 16; a < 32; a += words {
				if a != last {
					h.Free[class] = append(h.Free[class], a)
				}
			}
			c[class], h.Free[class] = h.Free[class][:1], h.Free[class][1:]
			want := cloneLists(h.Free)
			want[class] = append(want[class], last)
			holdFree(t, "beside a cache", h, last, fields, outcome{h.Pages, want, last, last + words})
			left := freed(h, last).h
			if !heap.Whole(left, c) {
				t.Errorf("class %d: not whole with the cache: %v", class, left)
			}
			if got := flushed(left, c); got.e != api.OK || got.h.Pages[0] != free || !sameLists(got.h.Free, api.Lists{}) {
				t.Errorf("class %d: behind Flush: %v", class, got)
			}
		}
	}
}

// P9.1: large objects that are freed, told by hand: their words are noughts, their pages free, at the beginning, in the midst and at the end; pages beside them stay, whatever they are.
func TestFreeLargeKnown(t *testing.T) {
	walls := [][]api.Page{nil, lots(1), {small(0)}, {small(1)}, {small(2)}, run(1), run(2), run(4), {small(2), small(1)}}
	for n := 1; n <= 4; n++ {
		for _, ahead := range walls {
			for _, behind := range walls {
				l := slices.Concat(ahead, run(n), behind)
				k := laid(l, "ffffffffuf")
				at := 16 + 16*len(ahead)
				for _, fields := range []int{max(8, 16*n-16), 16*n - 5, 16*n - 1} {
					holdFree(t, k.name, k.h, at, fields, outcome{slices.Concat(ahead, lots(n), behind), k.h.Free, at, at + 16*n})
				}
			}
		}
		l := slices.Concat(slices.Repeat([]api.Page{small(2)}, 64-n), run(n))
		k := laid(l, "uf")
		at := 16 + 16*(64-n)
		holdFree(t, "the last pages of 64", k.h, at, 16*n-1, outcome{slices.Concat(l[:64-n], lots(n)), k.h.Free, at, at + 16*n})
	}
}

// far are addresses so far off that a sum leaves 64 bits, or wraps into what is right in fewer.
var far = []int{math.MinInt, math.MinInt + 1, math.MinInt + 15, math.MinInt + 16, math.MinInt32, -1 << 61, -1<<61 + 16, -1 << 32, -1<<32 + 16, 1 << 16, 1<<16 + 16,
	1 << 32, 1<<32 + 16, 1<<32 + 48, 1 << 61, 1<<61 + 16, 1<<62 + 16, math.MaxInt - 31, math.MaxInt - 15, math.MaxInt - 1, math.MaxInt}

// checkFree holds Free of a heap that may be against the chapter's words.
func checkFree(t *testing.T, k known, a int) answer {
	t.Helper()
	got, want := freed(k.h, a), sayFree(k.h, a)
	if !got.is(want) {
		t.Fatalf("%s: Free(%v, %d): %v; want %v", k.name, k.h, a, got, want)
	}
	return got
}

// checkFlush holds Flush and Tidy of a heap that may be with its cache against the chapter's words.
func checkFlush(t *testing.T, k known) answer {
	t.Helper()
	got, want := flushed(k.h, k.c), sayFlush(k.h, k.c)
	if !got.is(want) {
		t.Fatalf("%s: Flush(%v, %v): %v; want %v", k.name, k.h, k.c, got, want)
	}
	if tidy, want := tidied(k.h), sayFlush(k.h, api.Lists{}); !tidy.is(want) {
		t.Fatalf("%s: Tidy(%v): %v; want %v", k.name, k.h, tidy, want)
	}
	return got
}

// P9.1, R1, R4: all heaps at hand, at all addresses, near and far: ErrNone but where an object begins.
func TestFree(t *testing.T) {
	for _, k := range good() {
		objects := heap.Used(k.h)
		for a := -40; a < 16+16*len(k.h.Pages)+40; a++ {
			if got := checkFree(t, k, a); (got.e == api.OK) != slices.Contains(objects, a) {
				t.Fatalf("%s: Free at %d: %d", k.name, a, got.e)
			}
		}
		for _, a := range far {
			if got := freed(k.h, a); !got.is(answer{e: api.ErrNone}) {
				t.Fatalf("%s: Free at %d: %v", k.name, a, got)
			}
		}
	}
}

// P9.1, R4: where no object begins, by hand: ErrNone, and nothing else; though what stands there looks like a head.
func TestFreeNone(t *testing.T) {
	k := mixed()
	for i := range k.h.W {
		if a := 16 + i; !slices.ContainsFunc(cellsOf(k.h.Pages), func(c span) bool { return c.at == a }) {
			k.h.W[i] = word(heads(1 + i%63)[i%10])
		}
	}
	for _, c := range []struct {
		name string
		at   int
	}{
		{"a cell on Free", 18}, {"one in the cache", 20}, {"one in another's", 24}, {"a free cell of class 1", 32}, {"of class 2", 176}, {"a field", 17}, {"an old one's field", 23}, {"a field in the midst", 38}, {"the last field of all", 415},
		{"a field of a large object", 49}, {"its last one", 63}, {"the page on which it goes on", 112}, {"its last word", 143}, {"a free page", 64}, {"within one", 70}, {"a word behind an object's fields", 39}, {"in a free cell", 19},
		{"0", 0}, {"1", 1}, {"15", 15}, {"below 0", -1}, {"-16", -16}, {"behind all", 416}, {"far behind", 4096}, {"the greatest", math.MaxInt}, {"the least", math.MinInt},
	} {
		if got := freed(k.h, c.at); !got.is(answer{e: api.ErrNone}) {
			t.Errorf("%s: Free at %d: %v", c.name, c.at, got)
		}
	}
	if twice := freed(freed(k.h, 16).h, 16); !twice.is(answer{e: api.ErrNone}) {
		t.Errorf("what was freed: %v", twice)
	}
	if twice := freed(freed(k.h, 48).h, 48); !twice.is(answer{e: api.ErrNone}) {
		t.Errorf("what was freed, of a large one: %v", twice)
	}
}

// P9.2: what is flushed, told by hand: class by class, in order, behind those on Free; then page by page what is free all through.
func TestFlushKnown(t *testing.T) {
	three := []api.Page{small(0), small(1), small(2)}
	objects := map[int]api.Head{16: used(1), 44: used(2), 48: used(7)}
	l := func(a ...int) api.Lists { return api.Lists{nil, a, nil} }
	pair := []api.Page{small(1), small(1)}
	tail := slices.Concat([]api.Page{small(1)}, run(2), []api.Page{small(2), free, small(2), small(1)}, run(1))
	tailObjects := map[int]api.Head{32: used(20), 96: used(4), 128: used(9)}
	for _, c := range []struct {
		name string
		h    api.Heap
		c    api.Lists
		want outcome
	}{
		{"no cells", build(three, objects, api.Lists{{20, 18}, {40}, {56}}), api.Lists{}, outcome{three, api.Lists{{20, 18}, {40}, {56}}, 0, 0}},
		{"no cells, in empty lists", build(three, objects, api.Lists{{20, 18}, {}, nil}), api.Lists{{}, {}, {}}, outcome{three, api.Lists{{20, 18}}, 0, 0}},
		{"one of class 0", build(three, objects, api.Lists{{20, 18}, {40}, nil}), api.Lists{{30}}, outcome{three, api.Lists{{20, 18, 30}, {40}, nil}, 0, 0}},
		{"one of class 1", build(three, objects, api.Lists{{20, 18}, {40}, nil}), l(32), outcome{three, api.Lists{{20, 18}, {40, 32}, nil}, 0, 0}},
		{"one of class 2", build(three, objects, api.Lists{{20, 18}, {40}, nil}), api.Lists{nil, nil, {56}}, outcome{three, api.Lists{{20, 18}, {40}, {56}}, 0, 0}},
		{"several of all", build(three, objects, api.Lists{{20, 18}, {40}, nil}), api.Lists{{30, 22, 26}, {32, 36}, {56}}, outcome{three, api.Lists{{20, 18, 30, 22, 26}, {40, 32, 36}, {56}}, 0, 0}},
		{"several, with none on Free", build(three, objects, api.Lists{}), api.Lists{{28, 18, 24}, {36, 32, 40}, nil}, outcome{three, api.Lists{{28, 18, 24}, {36, 32, 40}, nil}, 0, 0}},
		{"all that is left of a page", build(pair, map[int]api.Head{40: used(2)}, l(36, 24, 16, 44)), l(32, 28, 20), outcome{[]api.Page{free, small(1)}, l(36, 44, 32), 0, 0}},
		{"all that is left but one, of which none tells", build(pair, map[int]api.Head{40: used(2)}, l(36, 24, 16, 44)), l(32, 28), outcome{pair, l(36, 24, 16, 44, 32, 28), 0, 0}},
		{"all of a page", build(pair, map[int]api.Head{24: used(2)}, l(20, 16)), l(36, 44, 40, 32), outcome{[]api.Page{small(1), free}, l(20, 16), 0, 0}},
		{"all of all pages", build(pair, nil, l(20, 16, 32)), l(36, 28, 44, 40, 24), outcome{lots(2), l(), 0, 0}},
		{"all of each class", build(three, nil, api.Lists{{16, 20, 24, 28}, {36, 40}, {56}}), api.Lists{{30, 26, 22, 18}, {44, 32}, {48}}, outcome{lots(3), api.Lists{}, 0, 0}},
		{"all of two classes", build(three, map[int]api.Head{36: used(3)}, api.Lists{{16, 20, 24, 28}, {40}, {56}}), api.Lists{{30, 26, 22, 18}, {44, 32}, {48}}, outcome{[]api.Page{free, small(1), free}, l(40, 44, 32), 0, 0}},
		{"a page whose cells are on Free already", build(pair, map[int]api.Head{24: used(2)}, l(20, 36, 32, 16, 44, 40)), l(), outcome{[]api.Page{small(1), free}, l(20, 16), 0, 0}},
		{"a page whose cells are on Free already, and one of another's", build(pair, map[int]api.Head{24: used(2)}, l(20, 36, 32, 44, 40)), l(28), outcome{[]api.Page{small(1), free}, l(20, 28), 0, 0}},
		{"pages among others", build(tail, tailObjects, api.Lists{nil, {20, 112, 16, 28, 116, 124}, {72, 104}}), api.Lists{nil, {120, 24}, {64}}, outcome{slices.Concat(lots(1), run(2), []api.Page{free, free, small(2), free}, run(1)), api.Lists{nil, nil, {104}}, 0, 0}},
		{"free pages alone", build(lots(3), nil, api.Lists{}), api.Lists{}, outcome{lots(3), api.Lists{}, 0, 0}},
		{"large objects alone", build(slices.Concat(run(4), run(1), run(3)), map[int]api.Head{16: used(60), 80: used(8), 96: used(47)}, api.Lists{}), api.Lists{}, outcome{slices.Concat(run(4), run(1), run(3)), api.Lists{}, 0, 0}},
	} {
		want := c.want.of(c.h)
		if got := flushed(c.h, c.c); !got.is(want) {
			t.Errorf("%s: Flush(%v, %v): %v; want %v", c.name, c.h, c.c, got, want)
		}
		if again := sayFlush(c.h, c.c); !again.is(want) {
			t.Errorf("the test's own words are wrong of %s: %v; want %v", c.name, again, want)
		}
	}
}

// P9.2: Tidy, told by hand: pages whose cells are all on Free are given back, whatever a cache tells of others.
func TestTidyKnown(t *testing.T) {
	l := slices.Concat([]api.Page{small(2), small(1), small(0)}, run(1), []api.Page{small(2), free, small(1)})
	objects := map[int]api.Head{64: used(15), 48: used(1)}
	h := build(l, objects, api.Lists{{50, 52, 54, 56, 58, 60, 62}, {44, 112, 32, 116, 40, 124}, {88, 24, 80, 16}})
	want := outcome{slices.Concat([]api.Page{free, small(1), small(0)}, run(1), []api.Page{free, free, small(1)}), api.Lists{{50, 52, 54, 56, 58, 60, 62}, {44, 112, 32, 116, 40, 124}, nil}, 0, 0}.of(h)
	if got := tidied(h); !got.is(want) {
		t.Errorf("Tidy: %v; want %v", got, want)
	}
	if got := tidied(want.h); !got.is(want) {
		t.Errorf("Tidy of what is tidy: %v", got)
	}
}

// P9.2: all heaps at hand; Tidy is Flush of no cells; of another thread's cache Flush is just so.
func TestFlush(t *testing.T) {
	for _, k := range good() {
		checkFlush(t, k)
		if got, want := tidied(k.h), flushed(k.h, api.Lists{nil, {}, nil}); !got.is(want) {
			t.Errorf("%s: Tidy: %v; Flush of no cells: %v", k.name, got, want)
		}
		for _, c := range k.others {
			checkFlush(t, known{k.name, k.h, c, append(slices.Clone(k.others), k.c)})
		}
	}
}

// P9.1, P9.2: all short heaps, with cells that are used, and told of, in many ways: each object freed, and the cache flushed.
func TestShort(t *testing.T) {
	for n := 1; n <= 4; n++ {
		for _, l := range shortPages(n) {
			for _, pattern := range patterns {
				k := laid(l, pattern)
				checkFlush(t, k)
				for _, c := range cellsOf(l) {
					checkFree(t, k, c.at)
				}
			}
		}
	}
}

// P9.1, P9.2: of one page of each class cells are on Free, in the cache, used, or told of by none, in all ways; Free is in the other order.
func TestPage(t *testing.T) {
	for class, words := range []int{2, 4, 8} {
		n := 16 / words
		for way := range 1 << (2 * n) {
			if class == 0 && way%7 != 0 { // of eight cells not all of the ways
				continue
			}
			pattern := ""
			for i := range n {
				pattern += "ufc-"[way>>(2*i)&3 : way>>(2*i)&3+1]
			}
			k := laid([]api.Page{small(2), small(class), small(class)}, "uf"+pattern+"f")
			slices.Reverse(k.h.Free[class])
			checkFlush(t, k)
			for a := 32; a < 48; a += words {
				checkFree(t, k, a)
			}
		}
	}
}

// P9.1, P9.2, R2, R4: heaps that may not be: ErrArg, whatever the address, and the cache.
func TestWrongHeaps(t *testing.T) {
	wrong, alone := bad()
	for _, k := range wrong {
		if heap.May(k.h) {
			t.Fatalf("%s: may be", k.name)
		}
		for _, a := range append([]int{-16, -1, 0, 1, 15, 16, 17, 18, 20, 24, 30, 36, 44, 48, 49, 64, 96, 112, 176, 240, 304, 400, 415, 416, 1000}, far...) {
			if got := freed(k.h, a); !got.is(answer{e: api.ErrArg}) {
				t.Errorf("%s: Free at %d: %v", k.name, a, got)
			}
		}
		if got := tidied(k.h); !got.is(answer{e: api.ErrArg}) {
			t.Errorf("%s: Tidy: %v", k.name, got)
		}
		for _, c := range append(alone, known{}, mixed(), k) {
			if got := flushed(k.h, c.c); !got.is(answer{e: api.ErrArg}) {
				t.Errorf("%s: Flush of %v: %v", k.name, c.c, got)
			}
		}
	}
}

// P9.1, P9.2, R4: what is wrong with the cache alone: Flush tells ErrArg; of the heap without it all is as ever.
func TestWrongCaches(t *testing.T) {
	_, alone := bad()
	for _, k := range alone {
		if !heap.May(k.h) || heap.May(k.h, k.c) {
			t.Fatalf("%s: may be with its cache, or may not without", k.name)
		}
		if got := flushed(k.h, k.c); !got.is(answer{e: api.ErrArg}) {
			t.Errorf("%s: Flush: %v", k.name, got)
		}
		k.c = api.Lists{}
		checkFlush(t, k)
		for _, a := range []int{16, 48, 304, 400, 18, 20, 0} {
			checkFree(t, k, a)
		}
	}
}

// remember is each object's words, by where it begins, the head's among them.
func remember(h api.Heap) map[int][]int {
	objects := map[int][]int{}
	for _, c := range cellsOf(h.Pages) {
		if h.W[c.at-16]%2 != 0 {
			objects[c.at] = slices.Clone(h.W[c.at-16 : c.at-16+c.words])
		}
	}
	return objects
}

// sameObjects tells whether just those objects are there that were remembered, but the one at a, with their words and heads as they were.
func sameObjects(h api.Heap, was map[int][]int, a int) bool {
	is := remember(h)
	for at, words := range was {
		if at != a && !slices.Equal(is[at], words) {
			return false
		}
	}
	if was[a] == nil {
		return len(is) == len(was)
	}
	return len(is) == len(was)-1 && is[a] == nil
}

// spare tells whether a heap has a small page whose cells are all on Free.
func spare(h api.Heap) bool {
	held := map[int]bool{}
	for _, c := range cellsOf(h.Pages) {
		if c.class == 3 || !slices.Contains(h.Free[c.class], c.at) {
			held[c.page] = true
		}
	}
	for page, p := range h.Pages {
		if p.Kind == api.PageSmall && !held[page] {
			return true
		}
	}
	return false
}

// P9.3: of all heaps at hand, and short ones: what was whole is whole, and what was not is not; behind Flush without the cache, and with no page whose cells are all on Free; other objects are as they were, and so are cards.
func TestWhatFollows(t *testing.T) {
	all := good()
	for n := 1; n <= 3; n++ {
		for _, l := range shortPages(n) {
			for _, pattern := range patterns {
				all = append(all, laid(l, pattern))
			}
		}
	}
	for _, k := range all {
		was, objects := k.whole(k.h, k.c), remember(k.h)
		got := flushed(k.h, k.c)
		if got.e != api.OK || k.whole(got.h, api.Lists{}) != was || spare(got.h) || !sameObjects(got.h, objects, 0) || !slices.Equal(got.h.Cards, k.h.Cards) {
			t.Fatalf("%s: behind Flush: %v", k.name, got)
		}
		if again := tidied(got.h); !again.is(got) {
			t.Fatalf("%s: behind Flush, and Tidy: %v; want %v", k.name, again, got)
		}
		tidy := tidied(k.h)
		if tidy.e != api.OK || k.whole(tidy.h, k.c) != was || spare(tidy.h) || !sameObjects(tidy.h, objects, 0) || !slices.Equal(tidy.h.Cards, k.h.Cards) {
			t.Fatalf("%s: behind Tidy: %v", k.name, tidy)
		}
		for a := range objects {
			got := freed(k.h, a)
			if got.e != api.OK || k.whole(got.h, k.c) != was || !sameObjects(got.h, objects, a) || !slices.Equal(got.h.Cards, k.h.Cards) {
				t.Fatalf("%s: behind Free at %d: %v", k.name, a, got)
			}
		}
	}
}

// P9.3: objects taken till there is no room, by several threads, and freed one behind the other, in several orders: all is whole at each step; and behind all, and each thread's Flush, all pages are free.
func TestTillEmpty(t *testing.T) {
	fields := []int{1, 8, 3, 20, 5, 2, 1, 63, 7, 40, 1, 1, 9, 4, 3, 33, 1, 2}
	for _, pages := range []int{1, 2, 3, 5, 9, 17, 64} {
		for stride := 1; stride <= 5; stride++ {
			h, _ := heap.New(pages)
			caches := make([]api.Lists, 3)
			for i, full := 0, 0; full < 18; i++ {
				g, c, a, e := alloc.Take(h, caches[i%3], heads(fields[i*stride%18])[i%10])
				if e != api.OK {
					full++
					continue
				}
				full, h, caches[i%3] = 0, g, c
				for f := range fields[i*stride%18] {
					h.W[a-16+1+f] = noise(i + f)
				}
			}
			empty(t, h, caches, stride)
		}
	}
}

// empty frees all objects of a heap, so many further each time, and flushes a cache at times, and all at the end.
func empty(t *testing.T, h api.Heap, caches []api.Lists, stride int) {
	t.Helper()
	flush := func(i int) {
		got := flushed(h, caches[i])
		h, caches[i] = got.h, api.Lists{}
		if got.e != api.OK || spare(h) || !heap.Whole(h, caches...) {
			t.Fatalf("behind Flush: %v, %v", got, caches)
		}
	}
	for i := 0; ; i++ {
		left := heap.Used(h)
		if len(left) == 0 {
			break
		}
		was, a := remember(h), left[i*stride%len(left)]
		got := freed(h, a)
		h = got.h
		if got.e != api.OK || !heap.Whole(h, caches...) || !sameObjects(h, was, a) {
			t.Fatalf("behind Free at %d: %v", a, got)
		}
		if i%7 == 3 {
			flush(i / 7 % len(caches))
		}
	}
	for i := range caches {
		flush(i)
	}
	if !slices.Equal(h.Pages, lots(len(h.Pages))) || !sameLists(h.Free, api.Lists{}) {
		t.Fatalf("behind all: %v", h)
	}
}

// P9.3: what is freed is room again: as many objects are taken behind as ahead.
func TestRoomAgain(t *testing.T) {
	for fields := 1; fields <= 63; fields++ {
		h, _ := heap.New(4)
		var taken []int
		for range 2 {
			var c api.Lists
			for alloc.Room(h, c, fields) {
				h, c, _, _ = alloc.Take(h, c, used(fields))
			}
			objects := heap.Used(h)
			for _, a := range objects {
				h = freed(h, a).h
			}
			h = flushed(h, c).h
			taken = append(taken, len(objects))
		}
		if taken[0] == 0 || taken[0] != taken[1] {
			t.Errorf("%d fields: %d objects, and then %d", fields, taken[0], taken[1])
		}
	}
}

// roomy is k with room behind each list's last element; and a function that tells whether all of it, with that room, is as it was.
func roomy(k known) (known, func() bool) {
	whole := clone(k.h)
	whole.W = append(whole.W, 71, 72, 73)
	whole.Pages = append(whole.Pages, small(1), small(2))
	whole.Cards = append(whole.Cards, true, false, true)
	c := cloneLists(k.c)
	for class := range c {
		whole.Free[class] = append(whole.Free[class], 9001, 9002, 9003)
		c[class] = append(c[class], 9004, 9005, 9006)
	}
	was, wasCache := answer{h: whole}.copied(), cloneLists(c)
	kept := func() bool { return answer{h: whole}.is(was) && sameLists(c, wasCache) }
	short := known{name: k.name, h: api.Heap{W: whole.W[:len(k.h.W)], Pages: whole.Pages[:len(k.h.Pages)], Cards: whole.Cards[:len(k.h.Cards)]}}
	for class := range c {
		short.h.Free[class] = whole.Free[class][:len(k.h.Free[class])]
		short.c[class] = c[class][:len(k.c[class])]
	}
	return short, kept
}

// parts are functions each of which writes over one list of a heap or a cache, and over the room behind its end.
func parts(h api.Heap, c api.Lists) []func() {
	words := func(l []int) func() {
		return func() {
			for i := range l[:cap(l)] {
				l[:cap(l)][i] = -77
			}
		}
	}
	all := []func(){words(h.W), words(h.Free[0]), words(h.Free[1]), words(h.Free[2]), words(c[0]), words(c[1]), words(c[2])}
	all = append(all, func() {
		for i := range h.Pages[:cap(h.Pages)] {
			h.Pages[:cap(h.Pages)][i] = api.Page{Kind: 77, Arg: 77}
		}
	})
	return append(all, func() {
		for i := range h.Cards[:cap(h.Cards)] {
			h.Cards[:cap(h.Cards)][i] = !h.Cards[:cap(h.Cards)][i]
		}
	})
}

// call is one of the package's, with what it is asked.
type call struct {
	name string
	ask  func(h api.Heap, c api.Lists) answer
}

// calls are Flush, Tidy, and Free at some addresses: of some heaps objects begin there, small and large ones, of others none.
func calls() []call {
	l := []call{{"Flush", flushed}, {"Tidy", func(h api.Heap, _ api.Lists) answer { return tidied(h) }}}
	for _, a := range []int{0, 16, 18, 32, 36, 48, 96, 192, 240, 304, 328, 400} {
		l = append(l, call{fmt.Sprint("Free at ", a), func(h api.Heap, _ api.Lists) answer { return freed(h, a) }})
	}
	return l
}

// R3: what is handed in stays as it was, also behind its end, and what stands there changes no answer.
func TestHandedIn(t *testing.T) {
	wrong, alone := bad()
	for _, k := range slices.Concat(good(), wrong, alone) {
		for _, f := range calls() {
			short, kept := roomy(k)
			want := f.ask(k.h, k.c)
			if got := f.ask(short.h, short.c); !got.is(want) {
				t.Errorf("%s: %s hangs on what stands behind: %v", k.name, f.name, got)
			}
			if !kept() {
				t.Fatalf("%s: %s: what was handed in is another one", k.name, f.name)
			}
		}
	}
}

// R3: what is answered is the caller's own, in words, pages, lists and cards: written over it changes nothing of what was handed in, the cache among it, nor of another answer; nor the other way round.
func TestAnsweredOwn(t *testing.T) {
	for _, k := range good() {
		for _, f := range calls() {
			short, kept := roomy(k)
			first, second := f.ask(short.h, short.c), f.ask(short.h, short.c)
			if first.e != api.OK {
				continue
			}
			want := second.copied()
			for _, spoil := range parts(first.h, api.Lists{}) {
				spoil()
			}
			if !kept() || !second.is(want) {
				t.Fatalf("%s: what %s answered is shared", k.name, f.name)
			}
			third := tidied(second.h)
			kth := third.copied()
			for _, spoil := range parts(short.h, short.c) {
				spoil()
			}
			if !second.is(want) || !third.is(kth) {
				t.Fatalf("%s: what %s was handed is shared", k.name, f.name)
			}
			for _, spoil := range parts(second.h, api.Lists{}) {
				spoil()
			}
			if !third.is(kth) {
				t.Fatalf("%s: what was answered, and handed in, is shared", k.name)
			}
		}
	}
}

// R3: no two lists of one answer share memory: each of them written over, with the room behind its end, changes none but itself.
func TestAnswersApart(t *testing.T) {
	for _, k := range good() {
		for _, f := range calls() {
			for i := range 9 {
				got := f.ask(k.h, k.c)
				if got.e != api.OK {
					break
				}
				parts(got.h, api.Lists{})[i]()
				if n := differ(got.h, f.ask(k.h, k.c).h); n > 1 {
					t.Errorf("%s: of what %s answered %d lists changed, not one", k.name, f.name, n)
				}
			}
		}
	}
}

// differ is in how many lists two heaps differ.
func differ(h, g api.Heap) int {
	n := 0
	for _, is := range []bool{slices.Equal(h.W, g.W), slices.Equal(h.Pages, g.Pages), slices.Equal(h.Cards, g.Cards),
		slices.Equal(h.Free[0], g.Free[0]), slices.Equal(h.Free[1], g.Free[1]), slices.Equal(h.Free[2], g.Free[2])} {
		if !is {
			n++
		}
	}
	return n
}

// R3: Free and cache that were handed in on one piece of memory, one behind the other.
func TestSharedAhead(t *testing.T) {
	l := []api.Page{small(1), small(1), free}
	objects := map[int]api.Head{16: used(3)}
	was := []int{20, 24, 28, 36, 40, 44, 32}
	for _, c := range []struct{ freeFrom, freeTo, from, to int }{{0, 4, 4, 7}, {0, 6, 0, 0}, {3, 7, 0, 3}, {0, 3, 3, 7}, {1, 1, 0, 7}, {0, 3, 3, 3}, {0, 0, 0, 0}} {
		all := slices.Clone(was)
		h := build(l, objects, api.Lists{})
		h.Free[1] = all[c.freeFrom:c.freeTo]
		k := known{name: "shared", h: h, c: api.Lists{nil, all[c.from:c.to], nil}}
		checkFlush(t, k)
		checkFree(t, k, 16)
		if !slices.Equal(all, was) {
			t.Fatalf("%v: what was handed in is %v", c, all)
		}
	}
}

// R5: what is asked again is answered alike, whatever was asked between.
func TestAskedAgain(t *testing.T) {
	k := mixed()
	var want []answer
	for _, f := range calls() {
		want = append(want, f.ask(k.h, k.c).copied())
	}
	wrong, alone := bad()
	for _, other := range slices.Concat(wrong, alone, good()) {
		for _, f := range calls() {
			f.ask(other.h, other.c)
		}
		for i, f := range calls() {
			if got := f.ask(k.h, k.c); !got.is(want[i]) {
				t.Fatalf("behind %s: %s: %v", other.name, f.name, got)
			}
		}
	}
}

// The chapter's example.
func TestExample(t *testing.T) {
	h := build([]api.Page{small(2)}, map[int]api.Head{16: used(7)}, api.Lists{nil, nil, {24}})
	if got := freed(h, 16); got.e != api.OK || got.h.Pages[0] != free || !sameLists(got.h.Free, api.Lists{}) {
		t.Errorf("%v", got)
	}
}
