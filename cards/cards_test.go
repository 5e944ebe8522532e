package cards_test

import (
	"fmt"
	"math"
	"slices"
	"testing"

	"ragpicker/alloc"
	"ragpicker/api"
	"ragpicker/cards"
	"ragpicker/heap"
)

var (
	free = api.Page{Kind: api.PageFree}
	rest = api.Page{Kind: api.PageRest}
)

func small(class int) api.Page { return api.Page{Kind: api.PageSmall, Arg: class} }
func large(n int) api.Page     { return api.Page{Kind: api.PageLarge, Arg: n} }

// run are all pages of a large object of n pages.
func run(n int) []api.Page {
	return append([]api.Page{large(n)}, slices.Repeat([]api.Page{rest}, n-1)...)
}

// lots are so many pages that are free.
func lots(n int) []api.Page { return slices.Repeat([]api.Page{free}, n) }

// used is a head with so many fields, and nothing else; old is one that is old, too.
func used(n int) api.Head { return api.Head{Used: true, N: n} }
func old(n int) api.Head  { return api.Head{Used: true, Old: true, N: n} }

// word is a head's word, as chapter 1 says it.
func word(x api.Head) int {
	w := 0
	for i, is := range []bool{x.Used, x.Old, x.Done} {
		if is {
			w += 1 << i
		}
	}
	return w + 8*x.N + 1024*x.Born + 4294967296*x.Mark
}

// noise is a word that nobody asks about: many of them look like heads of old objects, or like addresses; none is 0.
func noise(a int) int {
	return []int{word(old(1)), -1, 7, word(used(5)), 16, word(old(40)), math.MinInt, math.MaxInt, 18, word(old(2)), 2, 1, word(old(7))}[a%13]
}

// span is a cell: where it begins, how many words are its, and which class it is of (3, if it is large).
type span struct{ at, words, class int }

// cellsOf says again where cells begin on pages that may be.
func cellsOf(l []api.Page) []span {
	var all []span
	for page, p := range l {
		at := 16 + 16*page
		switch p.Kind {
		case 1:
			words := []int{2, 4, 8}[p.Arg]
			for next := at; next < at+16; next += words {
				all = append(all, span{next, words, p.Arg})
			}
		case 2:
			all = append(all, span{at, 16 * p.Arg, 3})
		}
	}
	return all
}

// known is a heap that may be, and its objects.
type known struct {
	name    string
	h       api.Heap
	objects map[int]api.Head
}

// build is a heap of pages, with objects by their addresses, each so many-th card dirty (none of 0), and noise in all words but the first ones of cells.
func build(name string, l []api.Page, objects map[int]api.Head, free api.Lists, dirty int) known {
	h := api.Heap{Pages: slices.Clone(l), Free: cloneLists(free)}
	for i := range 16 * len(l) {
		h.W = append(h.W, noise(16+i))
	}
	for _, c := range cellsOf(l) {
		h.W[c.at-16] = word(objects[c.at])
	}
	for i := range 2 * len(l) {
		h.Cards = append(h.Cards, dirty > 0 && i%dirty == 0)
	}
	return known{name, h, objects}
}

// laid is a heap of pages, each cell of which is, in turn, by a pattern: an object, one that is old, told of by Free, or by none. A large one is an object, too, and old, but by 'u'.
func laid(l []api.Page, pattern string, dirty int) known {
	objects, free := map[int]api.Head{}, api.Lists{}
	for next, c := range cellsOf(l) {
		sign := pattern[next%len(pattern)]
		switch {
		case sign == 'u':
			objects[c.at] = api.Head{Used: true, Done: next%2 == 0, N: c.words - 1, Born: next}
		case sign == 'o', c.class == 3:
			objects[c.at] = api.Head{Used: true, Old: true, Done: next%3 == 0, N: c.words - 1, Mark: next}
		case sign == 'f':
			free[c.class] = append(free[c.class], c.at)
		}
	}
	return build(fmt.Sprint(l, pattern, dirty), l, objects, free, dirty)
}

// mixed is a heap of all kinds of pages, side by side, with cells of each class on Free, and such as a thread's cache may have.
func mixed() known {
	l := slices.Concat([]api.Page{small(0), small(1)}, run(1), []api.Page{free, small(2)}, run(3), []api.Page{free, small(2)}, run(2), run(4), []api.Page{small(1), free})
	objects := map[int]api.Head{
		16: used(1), 18: old(1), 22: {Used: true, Old: true, Done: true, N: 1, Born: 1 << 20, Mark: 1 << 20}, 30: {Used: true, Done: true, N: 1, Mark: 9},
		32: {Used: true, N: 3, Born: 7}, 36: old(2), 44: {Used: true, Old: true, N: 3, Born: 1, Mark: 2}, 48: used(9), 80: old(7), 96: {Used: true, Old: true, Done: true, N: 40},
		168: used(4), 176: {Used: true, Done: true, N: 31, Born: 3, Mark: 3}, 208: old(63), 272: old(3), 276: {Used: true, Old: true, N: 2, Mark: 1}, 284: used(2),
	}
	return build("mixed", l, objects, api.Lists{{28, 20}, {40}, {160}}, 3)
}

func cloneLists(l api.Lists) api.Lists {
	for class := range l {
		l[class] = slices.Clone(l[class])
	}
	return l
}

func clone(h api.Heap) api.Heap {
	return api.Heap{W: slices.Clone(h.W), Pages: slices.Clone(h.Pages), Free: cloneLists(h.Free), Cards: slices.Clone(h.Cards)}
}

func same(h, g api.Heap) bool {
	for class := range h.Free {
		if !slices.Equal(h.Free[class], g.Free[class]) {
			return false
		}
	}
	return slices.Equal(h.W, g.W) && slices.Equal(h.Pages, g.Pages) && slices.Equal(h.Cards, g.Cards)
}

// answer is what a call tells: those of its parts that the call has.
type answer struct {
	h  api.Heap
	n  int
	l  []int
	ok bool
	e  api.Errno
}

func of(h api.Heap, a int) answer {
	n, e := cards.Of(h, a)
	return answer{n: n, e: e}
}

func dirty(h api.Heap, a int) answer {
	g, e := cards.Dirty(h, a)
	return answer{h: g, e: e}
}

func clean(h api.Heap, card int) answer {
	g, e := cards.Clean(h, card)
	return answer{h: g, e: e}
}

func is(h api.Heap, a int) answer { return answer{ok: cards.Is(h, a)} }

func on(h api.Heap, card int) answer { return answer{l: cards.On(h, card)} }

func next(h api.Heap, card, a int) answer {
	n, ok := cards.Next(h, card, a)
	return answer{n: n, ok: ok}
}

func (a answer) copied() answer { return answer{clone(a.h), a.n, slices.Clone(a.l), a.ok, a.e} }

// is tells whether two answers are the same, but that lists without elements may be nil or empty (R6).
func (a answer) is(b answer) bool {
	return same(a.h, b.h) && a.n == b.n && slices.Equal(a.l, b.l) && a.ok == b.ok && a.e == b.e
}

// hold holds an answer against what it should be.
func hold(t *testing.T, name string, got, want answer) {
	t.Helper()
	if !got.is(want) {
		t.Fatalf("%s: %v; want %v", name, got, want)
	}
}

// sayOf says again what the chapter says of Of, of a heap that may be.
func sayOf(h api.Heap, a int) answer {
	for card := range h.Cards {
		for i := range 8 {
			if a == 16+8*card+i {
				return answer{n: card}
			}
		}
	}
	return answer{e: api.ErrNone}
}

// sayMarked is a heap with a card as it is told, and all else as it was.
func sayMarked(h api.Heap, card int, dirty bool) answer {
	h = clone(h)
	for n := range h.Cards {
		if n == card {
			h.Cards[n] = dirty
		}
	}
	return answer{h: h}
}

// sayDirty says again what the chapter says of Dirty, of a heap that may be.
func sayDirty(h api.Heap, a int) answer {
	card := sayOf(h, a)
	if card.e != api.OK {
		return card
	}
	return sayMarked(h, card.n, true)
}

// sayClean says again what the chapter says of Clean, of a heap that may be.
func sayClean(h api.Heap, card int) answer {
	if card < 0 || card >= len(h.Cards) {
		return answer{e: api.ErrNone}
	}
	return sayMarked(h, card, false)
}

// sayIs says again what the chapter says of Is, of a heap that may be.
func sayIs(h api.Heap, a int) answer {
	card := sayOf(h, a)
	return answer{ok: card.e == api.OK && h.Cards[card.n]}
}

// sayOn says again what the chapter says of On.
func (k known) sayOn(card int) answer {
	var l []int
	for a := range k.objects {
		if sayOf(k.h, a).n == card {
			l = append(l, a)
		}
	}
	slices.Sort(l)
	return answer{l: l}
}

// sayNext says again what the chapter says of Next.
func (k known) sayNext(card, a int) answer {
	for _, at := range k.sayOn(card).l {
		if at > a && k.objects[at].Old {
			return answer{n: at, ok: true}
		}
	}
	return answer{}
}

// far are numbers so far off that a sum, or a product, of them leaves 64 bits, or wraps into what is right in fewer, or as a card's address.
var far = []int{math.MinInt, math.MinInt + 1, math.MinInt + 15, math.MinInt + 16, math.MinInt + 17, math.MinInt / 8, math.MinInt/8 + 1, math.MinInt32, -1 << 61, -1<<61 + 1, -1<<61 - 1, -1<<61 - 2, -1<<61 + 16, -1 << 60, -1 << 32, -1<<32 + 16,
	1 << 16, 1<<16 + 16, 1 << 29, 1<<29 + 1, 1 << 32, 1<<32 + 16, 1<<32 + 48, 1 << 60, 1<<60 + 1, 1 << 61, 1<<61 + 1, 1<<61 + 16, 1<<61 - 1, 1<<61 - 2, 1 << 62, 1<<62 + 1, 1<<62 + 16, math.MaxInt / 8, math.MaxInt/8 + 1, math.MaxInt - 16, math.MaxInt - 15, math.MaxInt - 7, math.MaxInt - 1, math.MaxInt}

// good are heaps that may be.
func good() []known {
	bare := mixed()
	bare.name, bare.h.Free = "mixed, with nothing told of", api.Lists{}
	whole := mixed()
	whole.name, whole.h.Free = "mixed, whole", api.Lists{{26, 28, 24, 20}, {280, 40}, {88, 160}}
	clean := mixed()
	clean.name, clean.h.Cards = "mixed, clean", make([]bool, 36)
	stained := mixed()
	stained.name, stained.h.Cards = "mixed, all dirty", slices.Repeat([]bool{true}, 36)
	all := []known{
		mixed(), bare, whole, clean, stained,
		build("one free page", lots(1), nil, api.Lists{}, 0), build("one free page, dirty", lots(1), nil, api.Lists{}, 1),
		build("nil and empty lists", []api.Page{small(2), free}, map[int]api.Head{16: old(4), 24: used(5)}, api.Lists{{}, nil, {}}, 2),
		build("64 free pages", lots(64), nil, api.Lists{}, 5),
		laid(slices.Repeat(slices.Concat(run(4), run(2), run(1), run(1)), 8), "uoo", 4),
		laid(slices.Repeat(slices.Concat([]api.Page{small(0), free, small(1)}, run(1), []api.Page{small(2)}, run(3)), 8), "ouffo-uu", 7),
	}
	for class := range 3 {
		for _, pattern := range []string{"u", "o", "f", "-", "fo", "uof-ou"} {
			all = append(all, laid([]api.Page{small(class)}, pattern, 1), laid(slices.Repeat([]api.Page{small(class)}, 3), pattern, 2))
		}
		all = append(all, laid(slices.Repeat([]api.Page{small(class)}, 64), "uuofo", 3))
	}
	return all
}

// shortPages are all pages that may be, and are as many.
func shortPages(n int) [][]api.Page {
	if n == 0 {
		return [][]api.Page{nil}
	}
	var all [][]api.Page
	for _, first := range [][]api.Page{{free}, {small(0)}, {small(1)}, {small(2)}, run(1), run(2), run(3), run(4)} {
		if len(first) > n {
			continue
		}
		for _, more := range shortPages(n - len(first)) {
			all = append(all, slices.Concat(first, more))
		}
	}
	return all
}

// shorts are all short heaps, with cells that are objects, old, and on Free in many ways.
func shorts() []known {
	var all []known
	for n := 1; n <= 4; n++ {
		for i, l := range shortPages(n) {
			for j, pattern := range []string{"u", "o", "f", "uo", "foo", "uuuof", "-ffou"} {
				if n < 4 || (i+j)%3 == 0 { // of the many longest ones not all
					all = append(all, laid(l, pattern, (i+2*j)%4))
				}
			}
		}
	}
	return all
}

// bad are heaps that may not be: each of what heap's chapter asks for is missing in one at least.
func bad() []known {
	changed := func(name string, change func(h *api.Heap)) known {
		k := mixed()
		change(&k.h)
		return known{name, k.h, nil}
	}
	first := func(name string, a, w int) known {
		return changed(name, func(h *api.Heap) { h.W[a-16] = w })
	}
	page := func(name string, at int, p api.Page) known {
		return changed(name, func(h *api.Heap) { h.Pages[at] = p })
	}
	onFree := func(name string, class, a int) known {
		return changed(name, func(h *api.Heap) { h.Free[class] = append(h.Free[class], a) })
	}
	return []known{
		{name: "nothing at all"}, {name: "empty", h: api.Heap{W: []int{}, Pages: []api.Page{}, Cards: []bool{}}}, build("65 pages", lots(65), nil, api.Lists{}, 1),
		{name: "words alone", h: api.Heap{W: make([]int, 32)}}, {name: "cards alone", h: api.Heap{Cards: make([]bool, 4)}}, {name: "pages alone", h: api.Heap{Pages: lots(2)}},
		changed("no words", func(h *api.Heap) { h.W = nil }), changed("no pages", func(h *api.Heap) { h.Pages = nil }), changed("no cards", func(h *api.Heap) { h.Cards = nil }),
		changed("a word less", func(h *api.Heap) { h.W = h.W[:len(h.W)-1] }), changed("a page of words more", func(h *api.Heap) { h.W = append(h.W, make([]int, 16)...) }),
		changed("a page less", func(h *api.Heap) { h.Pages = h.Pages[:len(h.Pages)-1] }), changed("a page more", func(h *api.Heap) { h.Pages = append(h.Pages, free) }),
		changed("a card less", func(h *api.Heap) { h.Cards = h.Cards[:35] }), changed("a card more", func(h *api.Heap) { h.Cards = append(h.Cards, true) }), changed("a card a page", func(h *api.Heap) { h.Cards = h.Cards[:18] }),
		page("a free page with an Arg", 3, api.Page{Kind: 0, Arg: 1}), page("a kind that there is not", 3, api.Page{Kind: 4}), page("a page that goes on behind none", 3, rest), page("one that does not go on", 6, free), page("a class that there is not", 0, small(3)), page("a large object of five", 2, large(5)),
		first("a first word that is no head's", 30, 2), first("a word below 0", 16, -1), first("a large object that is not used", 48, 0), first("as many fields as are another class's", 36, word(used(4))), first("as many fields as are of another run", 176, word(used(8))), first("no fields", 16, word(used(0))), first("a cell of Free that is used", 28, word(used(1))),
		onFree("Free tells of an address twice", 0, 28), onFree("of one below all", 0, 0), onFree("of one in the midst of a cell", 0, 27), onFree("of one on a free page", 0, 64), onFree("of one of another class", 0, 280), onFree("of an object", 1, 32), onFree("of one behind all", 2, 304), onFree("of one far off", 1, math.MinInt),
	}
}

// addresses are all of a heap's words, some on either side, and far ones.
func addresses(h api.Heap) []int {
	l := slices.Clone(far)
	for a := -20; a < 16+len(h.W)+20; a++ {
		l = append(l, a)
	}
	return l
}

// numbers are all of a heap's cards, some on either side, and far ones.
func numbers(h api.Heap) []int {
	l := slices.Clone(far)
	for card := -20; card < len(h.Cards)+20; card++ {
		l = append(l, card)
	}
	return l
}

// The test's own heaps are as they should be, and so is what is said of them.
func TestHeaps(t *testing.T) {
	for _, k := range slices.Concat(good(), shorts()) {
		if used := heap.Used(k.h); !heap.May(k.h) || len(used) != len(k.objects) {
			t.Fatalf("%s: may not be, or has other objects: %v; want %v", k.name, used, k.objects)
		}
	}
	for _, k := range bad() {
		if heap.May(k.h) {
			t.Fatalf("%s: may be", k.name)
		}
	}
	if !heap.Whole(good()[2].h) {
		t.Fatal("not whole")
	}
}

// P10.1: Of, told by hand: the first and the last word of a card, of a page and of the heap; of objects, cells and free pages alike.
func TestOfKnown(t *testing.T) {
	for _, c := range []struct {
		name  string
		a     int
		n     int
		e     api.Errno
		pages int // at least
	}{
		{"the first word of all", 16, 0, api.OK, 1}, {"the next one", 17, 0, api.OK, 1}, {"the last word of the first card", 23, 0, api.OK, 1}, {"the first word of the next one", 24, 1, api.OK, 1},
		{"the last word of the first page", 31, 1, api.OK, 1}, {"the first word of the next one", 32, 2, api.OK, 2}, {"the last word of a card", 39, 2, api.OK, 2}, {"a field", 41, 3, api.OK, 2}, {"the last word of a page", 47, 3, api.OK, 2},
		{"a large object", 48, 4, api.OK, 18}, {"its midst", 55, 4, api.OK, 18}, {"its second card", 56, 5, api.OK, 18}, {"a free page", 64, 6, api.OK, 18}, {"its midst", 75, 7, api.OK, 18}, {"the midst of a large one of three pages", 119, 12, api.OK, 18}, {"and its next card", 120, 13, api.OK, 18},
		{"the last card's first word", 296, 35, api.OK, 18}, {"the last word of 18 pages", 303, 35, api.OK, 18}, {"the last word of all", 1039, 127, api.OK, 64}, {"the last card of all", 1032, 127, api.OK, 64}, {"the last but one", 1031, 126, api.OK, 64},
		{"below the first word", 15, 0, api.ErrNone, 1}, {"8", 8, 0, api.ErrNone, 1}, {"1", 1, 0, api.ErrNone, 1}, {"0", 0, 0, api.ErrNone, 1}, {"-1", -1, 0, api.ErrNone, 1}, {"-8", -8, 0, api.ErrNone, 1}, {"behind all", 1040, 0, api.ErrNone, 1},
		{"the greatest", math.MaxInt, 0, api.ErrNone, 1}, {"the least", math.MinInt, 0, api.ErrNone, 1}, {"as far below 0", math.MinInt + 16, 0, api.ErrNone, 1},
	} {
		for _, k := range good() {
			if len(k.h.Pages) >= c.pages {
				hold(t, fmt.Sprint(k.name, ": Of at ", c.name), of(k.h, c.a), answer{n: c.n, e: c.e})
			}
		}
	}
	for pages := 1; pages <= 64; pages++ {
		h, _ := heap.New(pages)
		hold(t, "the last word", of(h, 15+16*pages), answer{n: 2*pages - 1})
		hold(t, "behind the last word", of(h, 16+16*pages), answer{e: api.ErrNone})
		hold(t, "below the first word", of(h, 15), answer{e: api.ErrNone})
	}
}

// P10.1: Dirty and Clean, told by hand: that card alone, of one that is clean, and of one that is dirty already.
func TestMarkedKnown(t *testing.T) {
	k := laid(slices.Concat([]api.Page{small(1)}, run(2), []api.Page{free}), "o", 0)
	k.h.Cards = []bool{false, true, false, true, true, false, false, true}
	for _, c := range []struct {
		name string
		got  answer
		want []bool
	}{
		{"Dirty of the first word", dirty(k.h, 16), []bool{true, true, false, true, true, false, false, true}},
		{"of the first card's last one", dirty(k.h, 23), []bool{true, true, false, true, true, false, false, true}},
		{"of what is dirty", dirty(k.h, 24), []bool{false, true, false, true, true, false, false, true}},
		{"where a large object begins", dirty(k.h, 32), []bool{false, true, true, true, true, false, false, true}},
		{"in its midst, dirty", dirty(k.h, 48), []bool{false, true, false, true, true, false, false, true}},
		{"in its midst, clean", dirty(k.h, 60), []bool{false, true, false, true, true, true, false, true}},
		{"a free page", dirty(k.h, 64), []bool{false, true, false, true, true, false, true, true}},
		{"the last word, dirty", dirty(k.h, 79), []bool{false, true, false, true, true, false, false, true}},
		{"Clean of the first, clean", clean(k.h, 0), []bool{false, true, false, true, true, false, false, true}},
		{"of the next, dirty", clean(k.h, 1), []bool{false, false, false, true, true, false, false, true}},
		{"of one between dirty ones", clean(k.h, 2), []bool{false, true, false, true, true, false, false, true}},
		{"of one of two", clean(k.h, 3), []bool{false, true, false, false, true, false, false, true}},
		{"of the other", clean(k.h, 4), []bool{false, true, false, true, false, false, false, true}},
		{"of a clean one of a free page", clean(k.h, 6), []bool{false, true, false, true, true, false, false, true}},
		{"of the last", clean(k.h, 7), []bool{false, true, false, true, true, false, false, false}},
	} {
		want := clone(k.h)
		want.Cards = c.want
		hold(t, c.name, c.got, answer{h: want})
	}
	for _, a := range []int{15, 0, -1, 80, 81, 1040, math.MaxInt, math.MinInt} {
		hold(t, fmt.Sprint("Dirty at ", a), dirty(k.h, a), answer{e: api.ErrNone})
	}
	for _, card := range []int{-1, -8, 8, 9, 16, 24, 80, 1 << 61, math.MaxInt, math.MinInt} {
		hold(t, fmt.Sprint("Clean of ", card), clean(k.h, card), answer{e: api.ErrNone})
	}
}

// P10.1: Is, told by hand: of each word of a card; no, where there is none.
func TestIsKnown(t *testing.T) {
	k := laid(slices.Concat([]api.Page{small(2), free}, run(1)), "fu", 0)
	k.h.Cards = []bool{false, true, true, false, false, true}
	for _, c := range []struct {
		from, upTo int
		want       bool
	}{{-40, 24, false}, {24, 40, true}, {40, 56, false}, {56, 64, true}, {64, 120, false}} {
		for a := c.from; a < c.upTo; a++ {
			hold(t, fmt.Sprint("Is at ", a), is(k.h, a), answer{ok: c.want})
		}
	}
	k.h.Cards = slices.Repeat([]bool{true}, 6)
	for _, a := range append([]int{0, 8, 15, 64, 72}, far...) {
		hold(t, fmt.Sprint("Is at ", a), is(k.h, a), answer{})
	}
}

// P10.2: On, told by hand: cards with no object, with one, and with several; objects that begin on the card but go on behind it, and those that go on on it.
func TestOnKnown(t *testing.T) {
	want := map[int][]int{
		0: {16, 18, 22}, 1: {30}, 2: {32, 36}, 3: {44}, 4: {48}, 8: {80}, 10: {96}, 19: {168}, 20: {176}, 24: {208}, 32: {272, 276}, 33: {284},
	}
	for _, k := range good()[:5] {
		for card := -3; card < 40; card++ {
			hold(t, fmt.Sprint(k.name, ": On of ", card), on(k.h, card), answer{l: want[card]})
		}
	}
	full := laid([]api.Page{small(0), small(1), small(2)}, "uo", 0)
	for card, l := range [][]int{{16, 18, 20, 22}, {24, 26, 28, 30}, {32, 36}, {40, 44}, {48}, {56}, nil} {
		hold(t, fmt.Sprint("all cells used: On of ", card), on(full.h, card), answer{l: l})
	}
	none := laid([]api.Page{small(0), small(1), small(2), free}, "f", 1)
	for card := -1; card < 9; card++ {
		hold(t, fmt.Sprint("no cell used: On of ", card), on(none.h, card), answer{})
	}
}

// P10.2: Next, told by hand: from none on, from each object on, from an address between two; old ones alone.
func TestNextKnown(t *testing.T) {
	k := mixed()
	for _, c := range []struct {
		name    string
		card, a int
		want    int // 0: none
	}{
		{"from none on", 0, 0, 18}, {"from below 0", 0, -5, 18}, {"from one that is not old", 0, 16, 18}, {"from between", 0, 17, 18}, {"from an old one", 0, 18, 22}, {"from its field", 0, 19, 22}, {"from a free cell", 0, 20, 22}, {"from just ahead", 0, 21, 22},
		{"from the last one", 0, 22, 0}, {"from behind it", 0, 23, 0}, {"from another card", 0, 24, 0}, {"from far behind", 0, 300, 0},
		{"none is old", 1, 0, 0}, {"none is old, from it", 1, 30, 0}, {"the second one is", 2, 0, 36}, {"from the first one", 2, 32, 36}, {"from the second one", 2, 36, 0}, {"one, behind a free cell", 3, 1, 44}, {"from a card ahead", 3, 16, 44}, {"from it", 3, 44, 0},
		{"a large one, not old", 4, 0, 0}, {"where it goes on", 5, 0, 0}, {"a free page", 6, 0, 0}, {"a large one", 10, 1, 96}, {"from it", 10, 96, 0}, {"where it goes on", 11, 0, 0}, {"from it, where it goes on", 12, 96, 0}, {"of four pages", 24, 207, 208}, {"where it goes on", 31, 0, 0},
		{"two old ones", 32, 0, 272}, {"from the first", 32, 272, 276}, {"from the second", 32, 276, 0}, {"the last page", 35, 0, 0},
		{"no such card", 36, 0, 0}, {"no such card", -1, 0, 0}, {"no such card, below 0", -2, math.MinInt, 0}, {"far outside", math.MaxInt, 0, 0}, {"far below", math.MinInt, 0, 0}, {"a card that would wrap", 1 << 61, 0, 0},
		{"from the least", 0, math.MinInt, 18}, {"from the greatest", 0, math.MaxInt, 0}, {"from the greatest, of two", 32, math.MaxInt, 0}, {"from the least, of a large one", 24, math.MinInt, 208},
	} {
		hold(t, fmt.Sprint("Next of ", c.card, ": ", c.name), next(k.h, c.card, c.a), answer{n: c.want, ok: c.want != 0})
	}
}

// checkAddress holds all calls of an address against the chapter's words.
func checkAddress(t *testing.T, k known, a int) {
	t.Helper()
	name := fmt.Sprint(k.name, ", at ", a, ": ")
	hold(t, name+"Of", of(k.h, a), sayOf(k.h, a))
	hold(t, name+"Dirty", dirty(k.h, a), sayDirty(k.h, a))
	hold(t, name+"Is", is(k.h, a), sayIs(k.h, a))
}

// checkCard holds all calls of a card against the chapter's words; Next from around each of its words, and from far off.
func checkCard(t *testing.T, k known, card int) {
	t.Helper()
	name := fmt.Sprint(k.name, ", card ", card, ": ")
	hold(t, name+"Clean", clean(k.h, card), sayClean(k.h, card))
	hold(t, name+"On", on(k.h, card), k.sayOn(card))
	from := []int{0, -1, 15, math.MinInt, math.MaxInt}
	for i := -2; i < 10; i++ {
		from = append(from, 16+8*card+i) // of a far one some number
	}
	for _, a := range from {
		hold(t, fmt.Sprint(name, "Next from ", a), next(k.h, card, a), k.sayNext(card, a))
	}
}

// P10.1, P10.2, R1: all heaps at hand, at all addresses and cards, near and far.
func TestAll(t *testing.T) {
	for _, k := range good() {
		for i, a := range addresses(k.h) {
			if len(k.h.W) < 500 || i%3 != 0 { // of the greatest heaps not all
				checkAddress(t, k, a)
			}
		}
		for _, card := range numbers(k.h) {
			checkCard(t, k, card)
		}
	}
}

// P10.1, P10.2: all short heaps, with cells that are objects, old ones, and on Free, in many ways.
func TestShort(t *testing.T) {
	for i, k := range shorts() {
		for card := -1; card <= len(k.h.Cards); card++ {
			checkCard(t, k, card)
			checkAddress(t, k, 16+8*card+i%8)
		}
	}
}

// P10.2: of one card of each class the cells are objects, old ones, on Free, and told of by none, in all ways.
func TestCard(t *testing.T) {
	for class, cells := range []int{4, 2, 1} {
		for way := range 1 << (2 * cells) {
			pattern := ""
			for i := range cells {
				pattern += "uof-"[way>>(2*i)&3 : way>>(2*i)&3+1]
			}
			k := laid([]api.Page{small(class), small(class)}, pattern+[]string{"oooo", "ufuf", "oo", "u"}[way%4], 2)
			for card := range k.h.Cards {
				checkCard(t, k, card)
			}
		}
	}
}

// P10.2: which objects there are, and which are old, hangs on nothing else in their heads, nor on what the cards are.
func TestHeads(t *testing.T) {
	for _, done := range []bool{false, true} {
		for _, born := range []int{0, 1, 2, 1 << 20} {
			for _, mark := range []int{0, 1, 2, 1 << 20} {
				x, y := api.Head{Used: true, Done: done, N: 2, Born: born, Mark: mark}, api.Head{Used: true, Old: true, Done: done, N: 3, Born: born, Mark: mark}
				for dirty := range 3 {
					k := build(fmt.Sprint(done, born, mark, dirty), []api.Page{free, small(1)}, map[int]api.Head{32: x, 36: y, 40: y, 44: x}, api.Lists{}, dirty)
					for card := range 4 {
						checkCard(t, k, card)
					}
					if got := cards.On(k.h, 2); !slices.Equal(got, []int{32, 36}) {
						t.Errorf("%s: On: %v", k.name, got)
					}
				}
			}
		}
	}
}

// P10.3: what is dirtied is dirty, what is cleaned is clean, and no other card is another one, by Is.
func TestWhatIsDirtied(t *testing.T) {
	for _, k := range slices.Concat(good()[:8], shorts()[:50]) {
		for card := range k.h.Cards {
			for i, got := range []answer{dirty(k.h, 16+8*card), dirty(k.h, 23+8*card), clean(k.h, card)} {
				if got.e != api.OK {
					t.Fatalf("%s: card %d: %d", k.name, card, got.e)
				}
				for other := range k.h.Cards {
					want := cards.Is(k.h, 16+8*other)
					if other == card {
						want = i < 2
					}
					if cards.Is(got.h, 16+8*other) != want || cards.Is(got.h, 23+8*other) != want {
						t.Fatalf("%s: card %d, and then %d: not %t", k.name, card, other, want)
					}
				}
			}
		}
	}
}

// P10.3: behind many changes each card is as the last one of it told; and all else is as it was.
func TestManyChanges(t *testing.T) {
	for _, k := range good() {
		h, want := clone(k.h), clone(k.h)
		for i := range 200 {
			card := i * 37 % len(h.Cards)
			got := clean(h, card)
			if want.Cards[card] = i*i%7 < 4; want.Cards[card] {
				got = dirty(h, 16+8*card+i%8)
			}
			hold(t, fmt.Sprint(k.name, ", change ", i), got, answer{h: want})
			h = got.h
		}
	}
}

// P10.3: each object begins on one card, which is that of where it begins: those of all cards are the heap's objects, each once, rising; and by Next all that are old.
func TestObjectsOfAllCards(t *testing.T) {
	for _, k := range slices.Concat(good(), shorts()) {
		var all, allOld, old []int
		for card := range k.h.Cards {
			for _, a := range cards.On(k.h, card) {
				if n, e := cards.Of(k.h, a); n != card || e != api.OK {
					t.Fatalf("%s: %d is told on card %d, and is on %d", k.name, a, card, n)
				}
				all = append(all, a)
			}
			for a, ok := cards.Next(k.h, card, 0); ok && len(allOld) <= len(k.objects); a, ok = cards.Next(k.h, card, a) {
				allOld = append(allOld, a)
			}
		}
		used := heap.Used(k.h)
		for _, a := range used {
			if x, _ := heap.Head(k.h, a); x.Old {
				old = append(old, a)
			}
		}
		if !slices.Equal(all, used) || !slices.Equal(allOld, old) {
			t.Fatalf("%s: objects: %v, old ones: %v; want %v and %v", k.name, all, allOld, used, old)
		}
	}
}

// P10.2: objects that are taken one behind the other, by two threads, some of which grow old: at each step On and Next tell of those.
func TestTaken(t *testing.T) {
	fields := []int{1, 8, 3, 20, 5, 2, 1, 63, 7, 40, 1, 1, 9, 4, 3, 33, 1, 2}
	for _, pages := range []int{1, 3, 9} {
		k := known{name: fmt.Sprint(pages, " pages"), objects: map[int]api.Head{}}
		k.h, _ = heap.New(pages)
		var caches [2]api.Lists
		for i := range 60 {
			h, c, a, e := alloc.Take(k.h, caches[i%2], used(fields[i*5%18]))
			if e != api.OK {
				continue
			}
			k.h, caches[i%2] = h, c
			if k.objects[a] = used(fields[i*5%18]); i%3 != 0 {
				k.objects[a] = old(fields[i*5%18])
				k.h, _ = heap.Set(k.h, a, k.objects[a])
			}
			k.h = dirty(k.h, a).h
			for card := range k.h.Cards {
				checkCard(t, k, card)
			}
			checkAddress(t, k, a)
		}
	}
}

// call is one of the package's, with what it is asked.
type call struct {
	name string
	ask  func(h api.Heap) answer
}

// calls are all of the package's, at some addresses and cards that a heap may have, or not.
func calls() []call {
	var l []call
	for _, a := range []int{-16, 0, 15, 16, 17, 31, 32, 44, 63, 100, 303, 304, 1040, math.MinInt, math.MaxInt} {
		l = append(l,
			call{fmt.Sprint("Of at ", a), func(h api.Heap) answer { return of(h, a) }},
			call{fmt.Sprint("Dirty at ", a), func(h api.Heap) answer { return dirty(h, a) }},
			call{fmt.Sprint("Is at ", a), func(h api.Heap) answer { return is(h, a) }})
	}
	for _, card := range []int{-2, -1, 0, 1, 2, 10, 32, 35, 36, 128, math.MinInt, math.MaxInt} {
		l = append(l,
			call{fmt.Sprint("Clean of ", card), func(h api.Heap) answer { return clean(h, card) }},
			call{fmt.Sprint("On of ", card), func(h api.Heap) answer { return on(h, card) }},
			call{fmt.Sprint("Next of ", card), func(h api.Heap) answer { return next(h, card, 0) }})
	}
	return l
}

// P10.1, P10.2, R1, R2, R4: of heaps that may not be ErrArg is told, or nothing, whatever the address, or the card; also where there would be none.
func TestWrongHeaps(t *testing.T) {
	for _, k := range bad() {
		for _, a := range append(addresses(mixed().h), 1040) {
			name := fmt.Sprint(k.name, ", at ", a, ": ")
			hold(t, name+"Of", of(k.h, a), answer{e: api.ErrArg})
			hold(t, name+"Dirty", dirty(k.h, a), answer{e: api.ErrArg})
			hold(t, name+"Is", is(k.h, a), answer{})
		}
		for _, card := range numbers(mixed().h) {
			name := fmt.Sprint(k.name, ", card ", card, ": ")
			hold(t, name+"Clean", clean(k.h, card), answer{e: api.ErrArg})
			hold(t, name+"On", on(k.h, card), answer{})
			for _, a := range []int{0, 16, 96, 300, math.MinInt, math.MaxInt} {
				hold(t, name+"Next", next(k.h, card, a), answer{})
			}
		}
	}
}

// roomy is a heap with room behind each list's last element; and a function that tells whether all of it, with that room, is as it was.
func roomy(h api.Heap) (api.Heap, func() bool) {
	whole := clone(h)
	whole.W = append(whole.W, 71, 72, 73)
	whole.Pages = append(whole.Pages, small(1), small(2))
	whole.Cards = append(whole.Cards, true, false, true)
	for class := range whole.Free {
		whole.Free[class] = append(whole.Free[class], 9001, 9002, 9003)
	}
	was := clone(whole)
	short := api.Heap{W: whole.W[:len(h.W)], Pages: whole.Pages[:len(h.Pages)], Cards: whole.Cards[:len(h.Cards)]}
	for class := range whole.Free {
		short.Free[class] = whole.Free[class][:len(h.Free[class])]
	}
	return short, func() bool { return same(whole, was) }
}

// parts are functions each of which writes over one list of what was answered, and over the room behind its end.
func parts(a answer) []func() {
	words := func(l []int) func() {
		return func() {
			for i := range l[:cap(l)] {
				l[:cap(l)][i] = -77
			}
		}
	}
	return []func(){words(a.h.W), words(a.h.Free[0]), words(a.h.Free[1]), words(a.h.Free[2]), words(a.l), func() {
		for i := range a.h.Pages[:cap(a.h.Pages)] {
			a.h.Pages[:cap(a.h.Pages)][i] = api.Page{Kind: 77, Arg: 77}
		}
	}, func() {
		for i := range a.h.Cards[:cap(a.h.Cards)] {
			a.h.Cards[:cap(a.h.Cards)][i] = !a.h.Cards[:cap(a.h.Cards)][i]
		}
	}}
}

// spoil writes over all lists of what was answered.
func spoil(a answer) {
	for _, part := range parts(a) {
		part()
	}
}

// R3: what is handed in stays as it was, also behind its end, and what stands there changes no answer.
func TestHandedIn(t *testing.T) {
	for _, k := range slices.Concat(good(), bad()) {
		for _, f := range calls() {
			short, kept := roomy(k.h)
			want := f.ask(k.h)
			hold(t, fmt.Sprint(k.name, ": ", f.name, " of one with room behind its lists"), f.ask(short), want)
			if !kept() {
				t.Fatalf("%s: %s: what was handed in is another one", k.name, f.name)
			}
		}
	}
}

// R3: what is answered is the caller's own, words, pages, lists and cards, and what On tells: written over it changes nothing of what was handed in, nor of another answer; nor the other way round.
func TestAnsweredOwn(t *testing.T) {
	for _, k := range good() {
		for _, f := range calls() {
			short, kept := roomy(k.h)
			first, second := f.ask(short), f.ask(short)
			want := second.copied()
			spoil(first)
			if !kept() || !second.is(want) {
				t.Fatalf("%s: what %s answered is shared", k.name, f.name)
			}
			third := dirty(second.h, 16)
			kth := third.copied()
			spoil(answer{h: short})
			if !second.is(want) || !third.is(kth) {
				t.Fatalf("%s: what %s was handed is shared", k.name, f.name)
			}
			spoil(second)
			if !third.is(kth) {
				t.Fatalf("%s: what was answered, and handed in, is shared", k.name)
			}
		}
	}
}

// R3: no two lists of one answer share memory: each of them written over, with the room behind its end, changes none but itself.
func TestAnswersApart(t *testing.T) {
	for _, k := range good() {
		for _, f := range calls() {
			for i := range parts(answer{}) {
				got := f.ask(k.h)
				parts(got)[i]()
				if n := differ(got.h, f.ask(k.h).h); n > 1 {
					t.Errorf("%s: of what %s answered %d lists changed, not one", k.name, f.name, n)
				}
			}
		}
	}
}

// differ is in how many lists two heaps differ.
func differ(h, g api.Heap) int {
	n := 0
	for _, is := range []bool{slices.Equal(h.W, g.W), slices.Equal(h.Pages, g.Pages), slices.Equal(h.Cards, g.Cards),
		slices.Equal(h.Free[0], g.Free[0]), slices.Equal(h.Free[1], g.Free[1]), slices.Equal(h.Free[2], g.Free[2])} {
		if !is {
			n++
		}
	}
	return n
}

// R3: lists of Free that were handed in on one piece of memory, one behind the other, with room behind each.
func TestSharedAhead(t *testing.T) {
	all := []int{18, 20, 36, 40, 56}
	k := build("shared", []api.Page{small(0), small(1), small(2)}, map[int]api.Head{16: old(1), 32: used(3), 48: old(7)}, api.Lists{}, 4)
	k.h.Free = api.Lists{all[:2], all[2:4], all[4:]}
	for _, f := range calls() {
		got := f.ask(k.h)
		spoil(got)
		if !slices.Equal(all, []int{18, 20, 36, 40, 56}) {
			t.Fatalf("%s: what was handed in is %v", f.name, all)
		}
	}
	for card := range 6 {
		checkCard(t, k, card)
		checkAddress(t, k, 18+8*card)
	}
}

// R5: what is asked again is answered alike, whatever was asked between.
func TestAskedAgain(t *testing.T) {
	k := mixed()
	var want []answer
	for _, f := range calls() {
		want = append(want, f.ask(k.h).copied())
	}
	for _, other := range slices.Concat(bad(), good()) {
		for _, f := range calls() {
			f.ask(other.h)
		}
		for i, f := range calls() {
			hold(t, fmt.Sprint("behind ", other.name, ": ", f.name), f.ask(k.h), want[i])
		}
	}
}

// The chapter's example.
func TestExample(t *testing.T) {
	h, _ := heap.New(2)
	if n, e := cards.Of(h, 31); n != 1 || e != api.OK {
		t.Errorf("31 is on %d, %d", n, e)
	}
	if n, e := cards.Of(h, 32); n != 2 || e != api.OK {
		t.Errorf("32 is on %d, %d", n, e)
	}
}
