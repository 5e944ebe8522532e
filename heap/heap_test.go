package heap_test

import (
	"math"
	"slices"
	"testing"

	"ragpicker/api"
	"ragpicker/heap"
)

// far are numbers so far off that a sum with an address, or so many times a page, leaves 64 bits, or wraps into what is right in fewer.
var far = []int{math.MinInt, math.MinInt + 1, math.MinInt + 15, math.MinInt + 16, math.MinInt + 32, math.MinInt / 16, math.MinInt32, -1 << 60, -1<<60 + 1, -1 << 59, -1 << 32, -1<<32 + 1, -1<<32 + 16,
	1 << 8, 1<<8 + 1, 1 << 16, 1<<16 + 1, 1 << 31, 1 << 32, 1<<32 + 1, 1<<32 + 16, 1<<32 + 64, 1 << 59, 1<<59 + 1, 1 << 60, 1<<60 + 1, 1<<60 + 64, 1 << 61, 1<<61 + 1, 1 << 62, math.MaxInt / 16, math.MaxInt - 16, math.MaxInt - 1, math.MaxInt}

var (
	free = api.Page{Kind: api.PageFree}
	rest = api.Page{Kind: api.PageRest}
)

func small(class int) api.Page { return api.Page{Kind: api.PageSmall, Arg: class} }
func large(n int) api.Page     { return api.Page{Kind: api.PageLarge, Arg: n} }

// used is a head with so many fields, and nothing else.
func used(n int) api.Head { return api.Head{Used: true, N: n} }

// word is a head's word, as chapter 1 says it.
func word(x api.Head) int {
	w := 0
	if x.Used {
		w++
	}
	if x.Old {
		w += 2
	}
	if x.Done {
		w += 4
	}
	return w + 8*x.N + 1024*x.Born + 4294967296*x.Mark
}

// noise is a word that nobody asks about: many of them look like heads, or like addresses.
func noise(a int) int {
	return []int{word(used(1)), -1, 0, word(used(5)), 16, word(used(40)), math.MinInt, math.MaxInt, 18, word(used(2)), 2, 1}[a%12]
}

// build is a heap of pages, with objects by their addresses, clean and dirty cards in turn, and noise in all words but the first ones of cells.
func build(l []api.Page, objects map[int]api.Head, free api.Lists) api.Heap {
	h := api.Heap{Pages: slices.Clone(l), Free: cloneLists(free)}
	for i := range 16 * len(l) {
		h.W = append(h.W, noise(16+i))
	}
	for _, c := range cellsOf(l) {
		h.W[c.at-16] = word(objects[c.at])
	}
	for i := range 2 * len(l) {
		h.Cards = append(h.Cards, i%2 == 1)
	}
	return h
}

func cloneLists(l api.Lists) api.Lists {
	for class := range l {
		l[class] = slices.Clone(l[class])
	}
	return l
}

func clone(h api.Heap) api.Heap {
	return api.Heap{W: slices.Clone(h.W), Pages: slices.Clone(h.Pages), Free: cloneLists(h.Free), Cards: slices.Clone(h.Cards)}
}

func cloneCaches(l []api.Lists) []api.Lists {
	var all []api.Lists
	for _, c := range l {
		all = append(all, cloneLists(c))
	}
	return all
}

func sameLists(l, m api.Lists) bool {
	return slices.Equal(l[0], m[0]) && slices.Equal(l[1], m[1]) && slices.Equal(l[2], m[2])
}

func same(h, g api.Heap) bool {
	return slices.Equal(h.W, g.W) && slices.Equal(h.Pages, g.Pages) && sameLists(h.Free, g.Free) && slices.Equal(h.Cards, g.Cards)
}

// zero tells whether h is as Go makes it, but that lists may be empty (R6).
func zero(h api.Heap) bool { return same(h, api.Heap{}) }

// span is a cell: where it begins, how many words are its, and how many fields an object there has at least and at most.
type span struct{ at, words, least, most, class int }

// shape is the cell of a class, or, from 3 on, of so many pages and 2, as chapters 3 and 5 say it.
func shape(at, kind int) span {
	return []span{{at, 2, 1, 1, 0}, {at, 4, 2, 3, 1}, {at, 8, 4, 7, 2}, {at, 16, 8, 15, 3}, {at, 32, 16, 31, 3}, {at, 48, 32, 47, 3}, {at, 64, 48, 63, 3}}[kind]
}

// cellsOf says again where cells begin on pages that may be.
func cellsOf(l []api.Page) []span {
	var all []span
	for page, p := range l {
		at := 16 + 16*page
		switch p.Kind {
		case 1:
			for next := at; next < at+16; next += shape(0, p.Arg).words {
				all = append(all, shape(next, p.Arg))
			}
		case 2:
			all = append(all, shape(at, 2+p.Arg))
		}
	}
	return all
}

// pagesMay says again whether pages may be.
func pagesMay(l []api.Page) bool {
	if len(l) == 0 || len(l) > 64 {
		return false
	}
	for at := 0; at < len(l); at++ {
		p := l[at]
		switch {
		case p == free, p == small(0), p == small(1), p == small(2):
		case p.Kind == 2 && 1 <= p.Arg && p.Arg <= 4:
			for range p.Arg - 1 {
				if at++; at >= len(l) || l[at] != rest {
					return false
				}
			}
		default:
			return false
		}
	}
	return true
}

// headOf says again which head has a word, and whether one has.
func headOf(w int) (api.Head, bool) {
	if w < 0 {
		return api.Head{}, false
	}
	x := api.Head{Used: w%2 == 1, Old: w/2%2 == 1, Done: w/4%2 == 1, N: w / 8 % 128, Born: w / 1024 % 4194304, Mark: w / 4294967296}
	if w == 0 {
		return x, true
	}
	return x, x.Used && x.N <= 63 && x.Born <= 1048576 && x.Mark <= 1048576
}

// said is what the chapter says of a heap with caches: whether it may be, whether it is whole, and which objects it has.
type said struct {
	may, whole bool
	objects    map[int]api.Head
}

// say says again what the chapter says of a heap with caches.
func say(h api.Heap, caches ...api.Lists) said {
	if !pagesMay(h.Pages) || len(h.W) != 16*len(h.Pages) || len(h.Cards) != 2*len(h.Pages) {
		return said{}
	}
	objects, unused := map[int]api.Head{}, map[int]int{} // unused: of each cell its class, till it is told of
	for _, c := range cellsOf(h.Pages) {
		x, ok := headOf(h.W[c.at-16])
		switch {
		case !ok, c.class == 3 && !x.Used, x.Used && (x.N < c.least || x.N > c.most):
			return said{}
		case x.Used:
			objects[c.at] = x
		default:
			unused[c.at] = c.class
		}
	}
	for _, l := range append([]api.Lists{h.Free}, caches...) {
		for class := range 3 {
			for _, a := range l[class] {
				if is, ok := unused[a]; !ok || is != class {
					return said{}
				}
				delete(unused, a) // told once more it may not be
			}
		}
	}
	return said{true, len(unused) == 0, objects}
}

// addressesOf are where objects begin, rising.
func addressesOf(objects map[int]api.Head) []int {
	var l []int
	for a := range objects {
		l = append(l, a)
	}
	slices.Sort(l)
	return l
}

// addresses are all of a heap's words, some on either side, and far ones.
func addresses(h api.Heap) []int {
	l := slices.Clone(far)
	for a := -20; a < 16+len(h.W)+20; a++ {
		l = append(l, a)
	}
	return l
}

// known is a heap with caches, and what it is, told by hand.
type known struct {
	name       string
	h          api.Heap
	caches     []api.Lists
	may, whole bool
}

// mixed is a heap of all kinds of pages, side by side, some cells of which are told of by Free, and others by three caches.
func mixed() known {
	l := []api.Page{small(0), free, large(1), small(1), large(3), rest, rest, small(2), free, large(2), rest, large(4), rest, rest, rest, small(1), free}
	objects := map[int]api.Head{
		16: used(1), 20: {Used: true, N: 1, Born: 3}, 30: {Used: true, Old: true, Done: true, N: 1, Born: 1 << 20, Mark: 1 << 20},
		48: used(8), 64: used(2), 68: {Used: true, Done: true, N: 3, Mark: 7}, 80: used(40), 128: {Used: true, Old: true, N: 7, Born: 1}, 160: used(16), 192: used(63),
	}
	h := build(l, objects, api.Lists{{28, 18}, {76, 256}, nil})
	return known{"mixed", h, []api.Lists{{{22, 24}, {260}, nil}, {nil, {72}, {136}}, {{26}, {264, 268}, nil}}, true, true}
}

// large64 is the greatest heap of large objects alone, of four pages each.
func large64() api.Heap {
	objects := map[int]api.Head{}
	for at := 16; at < 16+1024; at += 64 {
		objects[at] = used(48 + at/64%16)
	}
	return build(slices.Repeat([]api.Page{large(4), rest, rest, rest}, 16), objects, api.Lists{})
}

// small64 is the greatest heap of one class alone: every third cell used, and what is not told of as free by Free.
func small64(class int) api.Heap {
	l := slices.Repeat([]api.Page{small(class)}, 64)
	objects, unused := map[int]api.Head{}, api.Lists{}
	for i, c := range cellsOf(l) {
		if i%3 == 0 {
			objects[c.at] = used(c.most)
		} else {
			unused[class] = append(unused[class], c.at)
		}
	}
	slices.Reverse(unused[class])
	return build(l, objects, unused)
}

// good are heaps that may be, with caches and without.
func good() []known {
	m := mixed()
	gap := mixed()
	gap.caches[1][1] = nil
	two := []api.Page{small(1), small(1)}
	lists := func(a ...int) api.Lists { return api.Lists{nil, a, nil} }
	return []known{
		{"one free page", build([]api.Page{free}, nil, api.Lists{}), nil, true, true},
		{"64 free pages", build(slices.Repeat([]api.Page{free}, 64), nil, api.Lists{}), nil, true, true},
		{"no caches, but empty ones", build([]api.Page{free}, nil, api.Lists{{}, {}, {}}), []api.Lists{{}, {{}, {}, {}}}, true, true},
		{"one large object", build([]api.Page{large(1)}, map[int]api.Head{16: used(15)}, api.Lists{}), nil, true, true},
		{"cells told of by Free", build([]api.Page{small(2)}, nil, api.Lists{nil, nil, {24, 16}}), nil, true, true},
		{"a cell told of by a cache alone", build([]api.Page{small(2)}, nil, api.Lists{nil, nil, {24}}), []api.Lists{{nil, nil, {16}}}, true, true},
		{"a cell told of by none", build([]api.Page{small(2)}, nil, api.Lists{nil, nil, {24}}), nil, true, false},
		{"cells told of by none", build([]api.Page{small(0), large(1)}, map[int]api.Head{32: used(9)}, api.Lists{}), nil, true, false},
		{"the last cell told of by none", build(two, map[int]api.Head{24: used(3)}, lists(40, 16, 36, 20, 28, 32)), nil, true, false},
		{"the first cell told of by none", build(two, map[int]api.Head{24: used(3)}, lists(40, 44, 36, 20, 28, 32)), nil, true, false},
		{"all cells used", build([]api.Page{small(2), free}, map[int]api.Head{16: used(4), 24: used(7)}, api.Lists{}), []api.Lists{{}}, true, true},
		{"a cell free in each of three lists", build(two, map[int]api.Head{24: used(3), 36: used(2)}, lists(40, 16)), []api.Lists{lists(20, 28), lists(44, 32)}, true, true},
		{"64 pages of class 0", small64(0), nil, true, true},
		{"64 pages of class 1", small64(1), []api.Lists{{}, {}}, true, true},
		{"64 pages of class 2", small64(2), nil, true, true},
		{"64 pages of large objects", large64(), nil, true, true},
		m,
		{"mixed, without caches", m.h, nil, true, false},
		{"mixed, without the last cache", m.h, m.caches[:2], true, false},
		{"mixed, without the first cache", m.h, m.caches[1:], true, false},
		{"mixed, with a cell that none tells of", gap.h, gap.caches, true, false},
	}
}

// changed is the mixed heap with something changed.
func changed(name string, change func(h *api.Heap, caches *[]api.Lists)) known {
	k := mixed()
	change(&k.h, &k.caches)
	return known{name, k.h, k.caches, false, false}
}

// wrongSizes are heaps that may not be, for how many words, pages and cards there are.
func wrongSizes() []known {
	w := func(name string, change func(h *api.Heap)) known {
		return changed(name, func(h *api.Heap, _ *[]api.Lists) { change(h) })
	}
	one := build([]api.Page{free}, nil, api.Lists{})
	none := known{name: "nothing at all"}
	words, cards := slices.Repeat([]int{0}, 65*16), slices.Repeat([]bool{false}, 65*2)
	return []known{
		none,
		{name: "nothing, with a cache", caches: []api.Lists{{{16}}}},
		{name: "empty", h: api.Heap{W: []int{}, Pages: []api.Page{}, Cards: []bool{}}},
		{name: "words alone", h: api.Heap{W: one.W}},
		{name: "pages alone", h: api.Heap{Pages: one.Pages}},
		{name: "cards alone", h: api.Heap{Cards: one.Cards}},
		{name: "no words", h: api.Heap{Pages: one.Pages, Cards: one.Cards}},
		{name: "no pages", h: api.Heap{W: one.W, Cards: one.Cards}},
		{name: "no cards", h: api.Heap{W: one.W, Pages: one.Pages}},
		{name: "65 pages", h: api.Heap{W: words, Pages: slices.Repeat([]api.Page{free}, 65), Cards: cards}},
		{name: "65 pages of words", h: api.Heap{W: words, Pages: slices.Repeat([]api.Page{free}, 64), Cards: cards[:128]}},
		w("a word less", func(h *api.Heap) { h.W = h.W[:len(h.W)-1] }),
		w("a word more", func(h *api.Heap) { h.W = append(h.W, 0) }),
		w("a page of words less", func(h *api.Heap) { h.W = h.W[:len(h.W)-16] }),
		w("a page of words more", func(h *api.Heap) { h.W = append(h.W, make([]int, 16)...) }),
		w("a page less", func(h *api.Heap) { h.Pages = h.Pages[:len(h.Pages)-1] }),
		w("a page more", func(h *api.Heap) { h.Pages = append(h.Pages, free) }),
		w("a card less", func(h *api.Heap) { h.Cards = h.Cards[:len(h.Cards)-1] }),
		w("a card more", func(h *api.Heap) { h.Cards = append(h.Cards, false) }),
		w("a page's cards less", func(h *api.Heap) { h.Cards = h.Cards[:len(h.Cards)-2] }),
		w("a card for each page", func(h *api.Heap) { h.Cards = h.Cards[:len(h.Pages)] }),
		w("a page of words and cards less", func(h *api.Heap) { h.W, h.Cards = h.W[:len(h.W)-16], h.Cards[:len(h.Cards)-2] }),
		w("a page of words, and a page, less", func(h *api.Heap) { h.W, h.Pages = h.W[:len(h.W)-16], h.Pages[:len(h.Pages)-1] }),
	}
}

// wrongPages are heaps with pages that may not be.
func wrongPages() []known {
	var all []known
	for _, c := range []struct {
		name string
		page int
		to   api.Page
	}{
		{"a free page with an Arg", 1, api.Page{Kind: 0, Arg: 1}}, {"a class that there is not", 0, small(3)}, {"a class below 0", 0, small(-1)},
		{"a large one of no page", 2, large(0)}, {"one of five", 11, large(5)}, {"one that has too many behind it", 4, large(2)}, {"one that has too few", 9, large(3)},
		{"one that goes on behind none", 1, rest}, {"one that does not go on", 5, free}, {"one that goes on with an Arg", 5, api.Page{Kind: 3, Arg: 1}},
		{"a kind that there is not", 1, api.Page{Kind: 4}}, {"a kind below 0", 1, api.Page{Kind: -1}}, {"a kind far off", 16, api.Page{Kind: 1 << 32}},
		{"a large one at the end", 16, large(2)},
	} {
		all = append(all,
			changed(c.name, func(h *api.Heap, _ *[]api.Lists) { h.Pages[c.page] = c.to }),
			changed(c.name+", where nothing is told of as free", func(h *api.Heap, caches *[]api.Lists) {
				h.Pages[c.page], h.Free, *caches = c.to, api.Lists{}, nil
			}))
	}
	for _, p := range []api.Page{small(3), small(-1), large(0), large(2), large(5), rest, {Kind: 0, Arg: 1}, {Kind: 4}, {Kind: -1}} {
		h := api.Heap{W: make([]int, 16), Pages: []api.Page{p}, Cards: make([]bool, 2)}
		all = append(all, known{name: "one page that may not be", h: h})
	}
	return all
}

// wrongHeads are heaps with a cell whose first word is no head's, or one that belongs elsewhere.
func wrongHeads() []known {
	var all []known
	for _, c := range []struct {
		name string
		a, w int
	}{
		{"an unused cell with a bit", 28, 2}, {"an unused cell with fields", 28, 8}, {"an unused cell with a birth", 76, 1 << 10}, {"an unused cell with a mark", 136, 1 << 32},
		{"a word below 0", 28, -1}, {"the least word", 16, math.MinInt}, {"the greatest", 16, math.MaxInt}, {"a cell in a cache with a bit", 22, 4},
		{"64 fields", 192, word(used(64))}, {"64 fields on a small page", 16, word(used(64))}, {"a birth too late", 16, word(used(1)) + (1<<20+1)<<10}, {"a mark too late", 16, word(used(1)) + (1<<20+1)<<32}, {"a bit between", 16, word(used(1)) + 1<<31},
		{"a large one that is not used", 48, 0}, {"a large one of three that is not used", 80, 0}, {"a large one of four that is not used", 192, 0}, {"a large one's bit", 80, 2},
		{"no fields, class 0", 16, word(used(0))}, {"no fields, class 1", 64, word(used(0))}, {"no fields, class 2", 128, word(used(0))}, {"no fields, large", 48, word(used(0))}, {"no fields, large, of four", 192, word(used(0))},
		{"class 0, for class 1", 16, word(used(2))}, {"class 0, for class 2", 20, word(used(4))}, {"class 0, for a page", 30, word(used(8))},
		{"class 1, for class 0", 64, word(used(1))}, {"class 1, for class 2", 68, word(used(4))}, {"class 1, for three pages", 68, word(used(40))},
		{"class 2, for class 1", 128, word(used(3))}, {"class 2, for class 0", 128, word(used(1))}, {"class 2, for a page", 128, word(used(8))}, {"class 2, for two pages", 128, word(used(16))},
		{"one page, for class 2", 48, word(used(7))}, {"one page, for class 1", 48, word(used(2))}, {"one page, for class 0", 48, word(used(1))}, {"one page, for two", 48, word(used(16))},
		{"two pages, for one", 160, word(used(15))}, {"two pages, for three", 160, word(used(32))}, {"two pages, for class 2", 160, word(used(5))},
		{"three pages, for two", 80, word(used(31))}, {"three pages, for four", 80, word(used(48))}, {"three pages, for class 2", 80, word(used(4))},
		{"four pages, for three", 192, word(used(47))}, {"four pages, for one", 192, word(used(9))},
		{"a cell of Free that is used", 28, word(used(1))}, {"one of a cache that is used", 260, word(used(2))}, {"one of the last cache that is used", 268, word(used(3))},
	} {
		all = append(all, changed(c.name, func(h *api.Heap, _ *[]api.Lists) { h.W[c.a-16] = c.w }))
	}
	return all
}

// wrongAddresses are heaps in which Free, or a cache, tells of an address that it may not tell of: each of them in each list.
func wrongAddresses() []known {
	var all []known
	for list := range 4 {
		for _, c := range []struct {
			name     string
			class, a int
		}{
			{"an address below all", 0, 15}, {"0", 0, 0}, {"one below 0", 0, -16}, {"the first one behind all", 0, 16 + 17*16}, {"the greatest one", 0, math.MaxInt}, {"the least one", 1, math.MinInt},
			{"one far off", 0, 1<<32 + 18}, {"one in the midst of an unused cell", 0, 19}, {"one in the midst of a used cell", 0, 17}, {"the midst of class 1", 1, 74}, {"the midst of class 2", 2, 140},
			{"a cell of class 2's place for class 0, in its midst", 0, 138}, {"a free page's first word", 0, 32}, {"one on a free page", 2, 40}, {"one on the last page, which is free", 1, 272}, {"one on a large page", 0, 50},
			{"a large object's first word", 0, 48}, {"the first word of a large one of four", 2, 192}, {"a page where a large object goes on", 1, 96},
			{"a cell of class 1, as of 0", 0, 76}, {"of class 2, as of 0", 0, 136}, {"of class 0, as of 1", 1, 28}, {"of class 2, as of 1", 1, 136}, {"of class 0, as of 2", 2, 24}, {"of class 1, as of 2", 2, 72},
			{"a used cell of class 0", 0, 16}, {"a used cell of class 1", 1, 64}, {"a used cell of class 2", 2, 128}, {"the last used cell", 0, 30},
		} {
			for _, ahead := range []bool{false, true} {
				all = append(all, changed(c.name, func(h *api.Heap, caches *[]api.Lists) { tellOf(h, *caches, list, c.class, c.a, ahead) }))
			}
		}
	}
	return all
}

// tellOf adds an address to Free (the list 0), or to a cache, ahead of others or behind them.
func tellOf(h *api.Heap, caches []api.Lists, list, class, a int, ahead bool) {
	l := &h.Free
	if list > 0 {
		l = &caches[list-1]
	}
	if ahead {
		l[class] = append([]int{a}, l[class]...)
	} else {
		l[class] = append(l[class], a)
	}
}

// toldTwice are heaps in which an address that Free or a cache tells of is told of once more: in the same list, in another class, in Free and in a cache, in two caches.
func toldTwice() []known {
	var all []known
	for list := range 4 {
		for class := range 3 {
			for _, a := range []int{28, 18, 76, 256, 22, 24, 260, 72, 136, 26, 264, 268} {
				all = append(all, changed("twice", func(h *api.Heap, caches *[]api.Lists) { tellOf(h, *caches, list, class, a, a%8 == 0) }))
			}
		}
	}
	free := changed("Free as a cache, too", func(h *api.Heap, caches *[]api.Lists) { *caches = append(*caches, h.Free) })
	same := changed("a cache twice", func(h *api.Heap, caches *[]api.Lists) { *caches = append(*caches, (*caches)[0]) })
	return append(all, free, same)
}

// bad are heaps that may not be with their caches.
func bad() []known {
	return slices.Concat(wrongSizes(), wrongPages(), wrongHeads(), wrongAddresses(), toldTwice())
}

// bare are heaps that may not be, also without caches.
func bare() []api.Heap {
	var all []api.Heap
	for _, k := range bad() {
		if !say(k.h).may {
			all = append(all, k.h)
		}
	}
	return all
}

// check holds May, Whole and Used of a heap against the chapter's words.
func check(t *testing.T, h api.Heap, caches ...api.Lists) {
	t.Helper()
	s := say(h, caches...)
	if got := heap.May(h, caches...); got != s.may {
		t.Fatalf("May(%v, %v): %t", h, caches, got)
	}
	if got := heap.Whole(h, caches...); got != s.whole {
		t.Fatalf("Whole(%v, %v): %t", h, caches, got)
	}
	if got, want := heap.Used(h), addressesOf(say(h).objects); !slices.Equal(got, want) {
		t.Fatalf("Used(%v): %v; want %v", h, got, want)
	}
}

// P7.1: New of each number: so many free pages, of noughts, without cells, with clean cards; or an error.
func TestNew(t *testing.T) {
	for pages := 1; pages <= 64; pages++ {
		h, e := heap.New(pages)
		want := api.Heap{W: make([]int, 16*pages), Pages: slices.Repeat([]api.Page{{Kind: 0, Arg: 0}}, pages), Cards: make([]bool, 2*pages)}
		if e != api.OK || !same(h, want) {
			t.Fatalf("New(%d): %v, %d", pages, h, e)
		}
		if !heap.May(h) || !heap.Whole(h) || !heap.Whole(h, api.Lists{}) || len(heap.Used(h)) != 0 {
			t.Errorf("New(%d) is not whole, or has objects", pages)
		}
	}
	for _, pages := range append([]int{-65, -64, -2, -1, 0, 65, 66, 128, 1024}, far...) {
		if h, e := heap.New(pages); e != api.ErrArg || !zero(h) {
			t.Errorf("New(%d): %v, %d", pages, h, e)
		}
	}
}

// P7.1: May and Whole, of heaps that are told by hand.
func TestMayAndWhole(t *testing.T) {
	for _, k := range append(good(), bad()...) {
		if got := heap.May(k.h, k.caches...); got != k.may {
			t.Errorf("%s: May(%v, %v): %t", k.name, k.h, k.caches, got)
		}
		if got := heap.Whole(k.h, k.caches...); got != k.whole {
			t.Errorf("%s: Whole(%v, %v): %t", k.name, k.h, k.caches, got)
		}
		if s := say(k.h, k.caches...); s.may != k.may || s.whole != k.whole {
			t.Errorf("the test's own words are wrong of %s: %v, %v", k.name, k.h, k.caches)
		}
	}
}

// P7.1: each class, and each number of pages, is for just so many fields, from the least number to the greatest.
func TestFields(t *testing.T) {
	for kind, p := range []api.Page{small(0), small(1), small(2), large(1), large(2), large(3), large(4)} {
		c := shape(16, kind)
		l := []api.Page{p}
		for len(l)*16 < c.words {
			l = append(l, rest)
		}
		for n := range 64 {
			for _, x := range []api.Head{used(n), {Used: true, Old: true, Done: true, N: n, Born: 1 << 20, Mark: 1 << 20}} {
				h := build(l, map[int]api.Head{16: x}, api.Lists{})
				if got, want := heap.May(h), c.least <= n && n <= c.most; got != want {
					t.Errorf("with %d fields on %v: %t", n, p, got)
				}
			}
		}
	}
}

// words are those of heads that may be, and that may not, for each class and each number of pages.
func words() []int {
	l := []int{0, 1, 2, 4, 6, 8, 1 << 9, 1 << 10, 1 << 31, 1 << 32, 1 << 53, -1, math.MinInt, math.MinInt + word(used(1)), math.MaxInt}
	for _, n := range []int{1, 2, 3, 4, 7, 8, 15, 16, 31, 32, 47, 48, 63, 64, 127} {
		l = append(l, word(used(n)), word(api.Head{Used: true, Old: true, N: n, Born: 1 << 20, Mark: 5}))
	}
	for _, n := range []int{1, 3, 7, 40} {
		l = append(l, word(used(n))-1, word(used(n))+1<<31, word(api.Head{Used: true, N: n, Born: 1<<20 + 1}), word(api.Head{Used: true, N: n, Mark: 1<<20 + 1}))
	}
	return l
}

// P7.1: one word changed, each of them, to many.
func TestWordChanged(t *testing.T) {
	k := mixed()
	for i, was := range k.h.W {
		for _, w := range words() {
			k.h.W[i] = w
			check(t, k.h, k.caches...)
		}
		k.h.W[i] = was
	}
}

// P7.1: one page changed, each of them, to each kind and Arg.
func TestPageChanged(t *testing.T) {
	k := mixed()
	for i, was := range k.h.Pages {
		for kind := -1; kind <= 4; kind++ {
			for arg := -1; arg <= 5; arg++ {
				k.h.Pages[i] = api.Page{Kind: kind, Arg: arg}
				check(t, k.h, k.caches...)
				untold := k.h
				untold.Free = api.Lists{}
				check(t, untold)
			}
		}
		k.h.Pages[i] = was
	}
}

// P7.1: one address more in each list and class: each of all.
func TestAddressAdded(t *testing.T) {
	for list := range 4 {
		for class := range 3 {
			for _, a := range addresses(mixed().h) {
				k := mixed()
				k.caches[1][1] = nil // so that one may be told of
				tellOf(&k.h, k.caches, list, class, a, a%2 == 0)
				check(t, k.h, k.caches...)
			}
		}
	}
}

// P7.1: one address of each list and class changed to each of all, or left out.
func TestAddressChanged(t *testing.T) {
	for list := range 4 {
		for class := range 3 {
			k := mixed()
			lists := append([]api.Lists{k.h.Free}, k.caches...)
			for i, was := range lists[list][class] {
				for _, a := range addresses(k.h) {
					lists[list][class][i] = a
					check(t, k.h, k.caches...)
				}
				lists[list][class][i] = was
				lists[list][class] = slices.Delete(slices.Clone(lists[list][class]), i, i+1)
				less := clone(k.h)
				less.Free = lists[0]
				check(t, less, lists[1:]...)
				lists[list][class] = slices.Insert(lists[list][class], i, was)
			}
		}
	}
}

// P7.1: cards are clean or dirty as they like.
func TestCardsChanged(t *testing.T) {
	k := mixed()
	for i := range k.h.Cards {
		k.h.Cards[i] = !k.h.Cards[i]
		check(t, k.h, k.caches...)
	}
}

// P7.1: no caches, one, several, and many that are empty.
func TestCaches(t *testing.T) {
	k := mixed()
	for from := range 4 {
		for to := from; to <= 3; to++ {
			check(t, k.h, k.caches[from:to]...)
		}
	}
	backward := []api.Lists{k.caches[2], {}, k.caches[1], {{}, {}, {}}, k.caches[0]}
	if !heap.Whole(k.h, backward...) {
		t.Errorf("not whole, with caches in another order")
	}
	if !heap.Whole(k.h, append(k.caches, make([]api.Lists, 1000)...)...) {
		t.Errorf("not whole, with a thousand empty caches")
	}
	if all := slices.Repeat(k.caches, 500); heap.May(k.h, all...) || heap.Whole(k.h, all...) {
		t.Errorf("caches five hundred times may be")
	}
}

// P7.1: what is told of by caches may be told of by Free, and the other way round.
func TestToldByFree(t *testing.T) {
	k := mixed()
	for _, c := range k.caches {
		for class := range 3 {
			k.h.Free[class] = append(k.h.Free[class], c[class]...)
		}
	}
	if !heap.Whole(k.h) || heap.May(k.h, k.caches...) {
		t.Errorf("all told of by Free: %t", heap.Whole(k.h))
	}
	cache := k.h.Free
	k.h.Free = api.Lists{}
	if !heap.Whole(k.h, cache) || heap.Whole(k.h) || !heap.May(k.h) {
		t.Errorf("all told of by a cache: %t", heap.Whole(k.h, cache))
	}
}

// P7.2: Head and Used of heaps that may be: at each address.
func TestHeadAndUsed(t *testing.T) {
	for _, k := range good() {
		objects := say(k.h).objects
		if got, want := heap.Used(k.h), addressesOf(objects); !slices.Equal(got, want) {
			t.Errorf("%s: Used: %v; want %v", k.name, got, want)
		}
		for _, a := range addresses(k.h) {
			want, ok := objects[a]
			x, e := heap.Head(k.h, a)
			if ok && (x != want || e != api.OK) || !ok && (x != api.Head{} || e != api.ErrNone) {
				t.Fatalf("%s: Head(%d): %v, %d; want %v", k.name, a, x, e, want)
			}
		}
	}
}

// P7.2: objects of the mixed heap, told by hand.
func TestUsedKnown(t *testing.T) {
	h := mixed().h
	if got := heap.Used(h); !slices.Equal(got, []int{16, 20, 30, 48, 64, 68, 80, 128, 160, 192}) {
		t.Errorf("Used: %v", got)
	}
	for _, c := range []struct {
		name string
		a    int
		x    api.Head
		e    api.Errno
	}{
		{"a small object", 16, used(1), api.OK}, {"another one", 20, api.Head{Used: true, N: 1, Born: 3}, api.OK}, {"an old one", 128, api.Head{Used: true, Old: true, N: 7, Born: 1}, api.OK},
		{"one with all that a head may have", 30, api.Head{Used: true, Old: true, Done: true, N: 1, Born: 1 << 20, Mark: 1 << 20}, api.OK}, {"a large one", 48, used(8), api.OK}, {"the greatest one", 192, used(63), api.OK},
		{"a cell that is not used", 18, api.Head{}, api.ErrNone}, {"one that a cache tells of", 260, api.Head{}, api.ErrNone}, {"the midst of a cell, which looks like a head", 84, api.Head{}, api.ErrNone}, {"a field", 17, api.Head{}, api.ErrNone},
		{"a free page", 32, api.Head{}, api.ErrNone}, {"a free page's word that looks like a head", 33, api.Head{}, api.ErrNone}, {"a page where one goes on", 96, api.Head{}, api.ErrNone}, {"the last page of one", 240, api.Head{}, api.ErrNone},
		{"below the first word", 15, api.Head{}, api.ErrNone}, {"none", 0, api.Head{}, api.ErrNone}, {"behind the last", 16 + 17*16, api.Head{}, api.ErrNone},
	} {
		if x, e := heap.Head(h, c.a); x != c.x || e != c.e {
			t.Errorf("%s: Head(%d): %v, %d", c.name, c.a, x, e)
		}
	}
	if h.W[84-16]%2 == 0 || h.W[33-16]%2 == 0 {
		t.Errorf("the words at 84 and 33 look like none")
	}
}

// P7.2: of heaps that may not be Head and Set tell ErrArg, and Used nothing, whatever the address.
func TestWrongHeaps(t *testing.T) {
	for i, h := range bare() {
		if got := heap.Used(h); len(got) != 0 {
			t.Errorf("Used of a heap that may not be (%d): %v", i, got)
		}
		for _, a := range append([]int{0, 15, 16, 17, 18, 20, 30, 32, 48, 64, 80, 96, 128, 160, 192, 256, 288, 1040}, far...) {
			if x, e := heap.Head(h, a); x != (api.Head{}) || e != api.ErrArg {
				t.Fatalf("Head of a heap that may not be (%d), %d: %v, %d", i, a, x, e)
			}
			for _, x := range []api.Head{{}, used(1), {N: 64}} {
				if g, e := heap.Set(h, a, x); !zero(g) || e != api.ErrArg {
					t.Fatalf("Set of a heap that may not be (%d), %d, %v: %v, %d", i, a, x, g, e)
				}
			}
		}
	}
}

// P7.2: Head, Set and Used ask of no caches: what is wrong with these alone hinders nothing.
func TestWithoutCaches(t *testing.T) {
	k := mixed()
	if heap.May(k.h, k.caches[0], k.caches[0]) || heap.Whole(k.h) {
		t.Fatalf("the same cache twice may be, or all is whole without caches")
	}
	if x, e := heap.Head(k.h, 64); x != used(2) || e != api.OK {
		t.Errorf("Head: %v, %d", x, e)
	}
	if _, e := heap.Set(k.h, 64, used(2)); e != api.OK {
		t.Errorf("Set: %d", e)
	}
	if got := heap.Used(k.h); len(got) != 10 {
		t.Errorf("Used: %v", got)
	}
}

// heads are those with so many fields that may be.
func heads(n int) []api.Head {
	return []api.Head{
		used(n), {Used: true, Old: true, N: n}, {Used: true, Done: true, N: n}, {Used: true, Old: true, Done: true, N: n, Born: 9, Mark: 11},
		{Used: true, N: n, Born: 1 << 20}, {Used: true, N: n, Mark: 1 << 20}, {Used: true, Old: true, Done: true, N: n, Born: 1 << 20, Mark: 1 << 20},
	}
}

// wrongHeadsOf are those that may not be set where there are so many fields.
func wrongHeadsOf(n int) []api.Head {
	l := []api.Head{
		{}, {N: n}, {Old: true}, {Done: true, N: n}, {Born: 1}, {Mark: 1},
		{Used: true, N: n, Born: -1}, {Used: true, N: n, Mark: -1}, {Used: true, N: n, Born: 1<<20 + 1}, {Used: true, N: n, Mark: 1<<20 + 1}, {Used: true, N: n, Born: math.MaxInt}, {Used: true, N: n, Mark: math.MinInt},
		{Used: true, N: n, Mark: 1 << 32}, {Used: true, N: n + 128}, {Used: true, N: n - 128}, {Used: true, N: n + 1<<32}, {Used: true, N: n + 1<<61},
	}
	for other := -1; other <= 65; other++ {
		if other != n {
			l = append(l, used(other), api.Head{Used: true, Old: true, N: other, Born: 2, Mark: 3})
		}
	}
	return l
}

// P7.2: Set of each object to each head with as many fields, which changes that one's first word alone; and to each other one, which is an error.
func TestSet(t *testing.T) {
	for _, k := range good() {
		for at, was := range say(k.h).objects {
			for _, x := range heads(was.N) {
				want := clone(k.h)
				want.W[at-16] = word(x)
				g, e := heap.Set(k.h, at, x)
				if e != api.OK || !same(g, want) {
					t.Fatalf("%s: Set(%d, %v): %v, %d", k.name, at, x, g, e)
				}
				if got, e := heap.Head(g, at); got != x || e != api.OK {
					t.Fatalf("%s: Set(%d, %v): its Head is %v, %d", k.name, at, x, got, e)
				}
				if heap.Whole(g, k.caches...) != k.whole {
					t.Fatalf("%s: Set(%d, %v): whole no more, or now", k.name, at, x)
				}
			}
			if len(k.h.Pages) == 64 && at > 200 {
				continue
			}
			for _, x := range wrongHeadsOf(was.N) {
				if g, e := heap.Set(k.h, at, x); e != api.ErrArg || !zero(g) {
					t.Fatalf("%s: Set(%d, %v): %v, %d", k.name, at, x, g, e)
				}
			}
		}
	}
}

// P7.2, R2: where no object begins ErrNone is told, whatever the head.
func TestSetNone(t *testing.T) {
	for _, k := range good() {
		objects := say(k.h).objects
		for _, a := range addresses(k.h) {
			if _, ok := objects[a]; ok {
				continue
			}
			for _, x := range []api.Head{{}, used(1), used(3), used(63), used(64), {N: 1}} {
				if g, e := heap.Set(k.h, a, x); e != api.ErrNone || !zero(g) {
					t.Fatalf("%s: Set(%d, %v): %v, %d", k.name, a, x, g, e)
				}
			}
		}
	}
}

// P7.3: what is whole has each word in just one: a cell that is used, one that is told of as free, or a free page; what may be, and is not whole, has some word in none.
func TestEachWordInOne(t *testing.T) {
	for _, k := range good() {
		in := map[int]int{}
		cover := func(from, n int) {
			for a := from; a < from+n; a++ {
				in[a]++
			}
		}
		for _, a := range heap.Used(k.h) {
			x, _ := heap.Head(k.h, a)
			n := 1 + x.N // an object's words: its cell has these, and those up to the next size
			cover(a, []int{2, 2, 2, 4, 4, 8, 8, 8, 8, 16}[min(n, 9)]+(n-1)/16*16)
		}
		for _, l := range append([]api.Lists{k.h.Free}, k.caches...) {
			for class, addresses := range l {
				for _, a := range addresses {
					cover(a, []int{2, 4, 8}[class])
				}
			}
		}
		for page, p := range k.h.Pages {
			if p == free {
				cover(16+16*page, 16)
			}
		}
		all := len(in) == len(k.h.W)
		for a, n := range in {
			if n != 1 || a < 16 || a >= 16+len(k.h.W) {
				t.Fatalf("%s: the word at %d is in %d", k.name, a, n)
			}
		}
		if all != heap.Whole(k.h, k.caches...) {
			t.Errorf("%s: each word is in one: %t", k.name, all)
		}
	}
}

// roomy is a heap with caches, with room behind each of their lists' last elements; and a function that tells whether all of it, with that room, is as it was.
func roomy(k known) (api.Heap, []api.Lists, func() bool) {
	whole := clone(k.h)
	whole.W = append(whole.W, 71, 72, 73)
	whole.Pages = append(whole.Pages, small(1), small(2))
	whole.Cards = append(whole.Cards, true, false, true)
	lists := append([]api.Lists{whole.Free}, cloneCaches(k.caches)...)
	for i := range lists {
		for class := range lists[i] {
			lists[i][class] = append(slices.Clone(lists[i][class]), 9001, 9002)
		}
	}
	lists = append(lists, api.Lists{{1}}, api.Lists{{2}}) // the room behind the caches
	whole.Free = lists[0]
	wasHeap, wasLists := clone(whole), cloneCaches(lists)
	kept := func() bool { return same(whole, wasHeap) && slices.EqualFunc(lists, wasLists, sameLists) }
	short := api.Heap{W: whole.W[:len(k.h.W)], Pages: whole.Pages[:len(k.h.Pages)], Cards: whole.Cards[:len(k.h.Cards)]}
	for class, a := range whole.Free {
		short.Free[class] = a[:len(a)-2]
	}
	caches := slices.Clone(lists[1:])
	for i := range k.caches {
		for class, a := range caches[i] {
			caches[i][class] = a[:len(a)-2]
		}
	}
	return short, caches[:len(k.caches)], kept
}

// R3: what is handed in stays as it was, also behind its end.
func TestHandedIn(t *testing.T) {
	for _, k := range append(good(), bad()...) {
		h, caches, kept := roomy(k)
		room := caches[:cap(caches)]
		was := cloneCaches(room)
		if got := heap.May(h, caches...); got != k.may {
			t.Errorf("%s: May hangs on what stands behind: %t", k.name, got)
		}
		if got := heap.Whole(h, caches...); got != k.whole {
			t.Errorf("%s: Whole hangs on what stands behind: %t", k.name, got)
		}
		heap.Used(h)
		for _, a := range []int{0, 16, 17, 18, 48, 80, 192, 1039} {
			heap.Head(h, a)
			for _, x := range []api.Head{{}, used(1), used(8), {Used: true, Old: true, N: 40, Mark: 4}, used(63)} {
				heap.Set(h, a, x)
			}
		}
		if !kept() || !slices.EqualFunc(room, was, sameLists) {
			t.Fatalf("%s: what was handed in is another one", k.name)
		}
	}
}

// spoil writes over all of a heap, and over the room behind its lists' ends.
func spoil(h api.Heap) {
	for i := range h.W[:cap(h.W)] {
		h.W[:cap(h.W)][i] = -77
	}
	for i := range h.Pages[:cap(h.Pages)] {
		h.Pages[:cap(h.Pages)][i] = api.Page{Kind: 77, Arg: 77}
	}
	for i := range h.Cards[:cap(h.Cards)] {
		h.Cards[:cap(h.Cards)][i] = !h.Cards[:cap(h.Cards)][i]
	}
	for _, l := range h.Free {
		for i := range l[:cap(l)] {
			l[:cap(l)][i] = -77
		}
	}
}

// R3: what Set answers is the caller's own, in words, pages, lists and cards: written over it changes nothing of what was handed in, nor of another answer; nor the other way round.
func TestSetOwn(t *testing.T) {
	for _, k := range good() {
		for _, at := range heap.Used(k.h) {
			h, _, kept := roomy(k)
			x, _ := heap.Head(h, at)
			x.Old, x.Mark = !x.Old, 12
			first, _ := heap.Set(h, at, x)
			second, _ := heap.Set(h, at, x)
			third, _ := heap.Set(second, at, x)
			want := clone(second)
			spoil(first)
			if !kept() || !same(second, want) || !same(third, want) {
				t.Fatalf("%s: what Set(%d) answered is shared", k.name, at)
			}
			spoil(h)
			if !same(second, want) || !same(third, want) {
				t.Fatalf("%s: what Set(%d) was handed is shared", k.name, at)
			}
			if len(k.h.Pages) == 64 && at > 100 {
				break
			}
		}
	}
}

// R3: what New and Used answer is the caller's own.
func TestAnsweredOwn(t *testing.T) {
	for _, pages := range []int{1, 2, 64} {
		one, _ := heap.New(pages)
		two, _ := heap.New(pages)
		want := clone(two)
		spoil(one)
		three, _ := heap.New(pages)
		if !same(two, want) || !same(three, want) {
			t.Errorf("New(%d): what was answered is shared", pages)
		}
	}
	h := mixed().h
	was, first := clone(h), heap.Used(h)
	second := heap.Used(h)
	want := slices.Clone(second)
	for i := range first[:cap(first)] {
		first[:cap(first)][i] = -77
	}
	spoiled := clone(h)
	third := heap.Used(spoiled)
	spoil(spoiled)
	if !same(h, was) || !slices.Equal(second, want) || !slices.Equal(third, want) || !slices.Equal(heap.Used(h), want) {
		t.Errorf("Used: what was answered is shared")
	}
}

// R3: lists of Free that are nil, or empty, with room and without, are taken alike.
func TestNilAndEmpty(t *testing.T) {
	l := []api.Page{small(2), large(2), rest}
	objects := map[int]api.Head{16: used(4), 24: used(5), 32: used(20)}
	for _, lists := range []api.Lists{{}, {{}, {}, {}}, {make([]int, 0, 5), nil, make([]int, 0, 5)}} {
		h := build(l, objects, api.Lists{})
		h.Free = lists
		if !heap.Whole(h) || !heap.Whole(h, lists, lists) {
			t.Errorf("%v: not whole", h)
		}
		if g, e := heap.Set(h, 32, used(20)); e != api.OK || !same(g, h) {
			t.Errorf("Set: %v, %d", g, e)
		} else {
			for class := range g.Free {
				_ = append(g.Free[class], 5)
			}
		}
		for _, a := range lists {
			if cap(a) > 0 && a[:1][0] != 0 {
				t.Errorf("the room behind an empty list is shared")
			}
		}
	}
}

// R5: what is asked again is answered alike, whatever was asked between.
func TestAskedAgain(t *testing.T) {
	k := mixed()
	for _, other := range append(bad(), good()...) {
		heap.May(other.h, other.caches...)
		heap.Whole(other.h, other.caches...)
		heap.Set(other.h, 16, used(1))
		heap.New(3)
		if !heap.Whole(k.h, k.caches...) || heap.Whole(k.h) {
			t.Fatalf("behind %s the mixed heap is another one", other.name)
		}
		if x, e := heap.Head(k.h, 128); x != (api.Head{Used: true, Old: true, N: 7, Born: 1}) || e != api.OK {
			t.Fatalf("behind %s: Head: %v, %d", other.name, x, e)
		}
	}
	check(t, k.h, k.caches...)
}

// The chapter's example.
func TestExample(t *testing.T) {
	h, e := heap.New(2)
	if e != api.OK || !heap.Whole(h) {
		t.Errorf("New(2): %v, %d", h, e)
	}
	for _, a := range addresses(h) {
		if _, e := heap.Head(h, a); e != api.ErrNone {
			t.Errorf("Head(%d): %d", a, e)
		}
	}
}
