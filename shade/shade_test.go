package shade_test

import (
	"fmt"
	"math"
	"slices"
	"testing"

	"ragpicker/alloc"
	"ragpicker/api"
	"ragpicker/heap"
	"ragpicker/shade"
)

var (
	free = api.Page{Kind: api.PageFree}
	rest = api.Page{Kind: api.PageRest}
)

func small(class int) api.Page { return api.Page{Kind: api.PageSmall, Arg: class} }
func large(n int) api.Page     { return api.Page{Kind: api.PageLarge, Arg: n} }

// run are all pages of a large object of n pages.
func run(n int) []api.Page {
	return append([]api.Page{large(n)}, slices.Repeat([]api.Page{rest}, n-1)...)
}

// lots are so many pages that are free.
func lots(n int) []api.Page { return slices.Repeat([]api.Page{free}, n) }

// word is a head's word, as chapter 1 says it.
func word(x api.Head) int {
	w := 0
	for i, is := range []bool{x.Used, x.Old, x.Done} {
		if is {
			w += 1 << i
		}
	}
	return w + 8*x.N + 1024*x.Born + 4294967296*x.Mark
}

// noise is a word that nobody asks about: many of them look like heads of objects of every colour, or like addresses; none is 0.
func noise(a int) int {
	return []int{
		word(api.Head{Used: true, N: 1, Mark: 5}), -1, word(api.Head{Used: true, N: 1}), word(api.Head{Used: true, Done: true, N: 5, Mark: 5}), 16, word(api.Head{Used: true, N: 40, Mark: 9}), math.MinInt,
		math.MaxInt, 18, word(api.Head{Used: true, N: 3, Mark: 4}), word(api.Head{Used: true, Old: true, N: 7, Mark: 5}), 2, word(api.Head{Used: true, N: 7, Mark: 1 << 20}),
	}[a%13]
}

// span is a cell: where it begins, how many words are its, and which class it is of (3, if it is large).
type span struct{ at, words, class int }

// cellsOf says again where cells begin on pages that may be.
func cellsOf(l []api.Page) []span {
	var all []span
	for page, p := range l {
		at := 16 + 16*page
		switch p.Kind {
		case 1:
			words := []int{2, 4, 8}[p.Arg]
			for next := at; next < at+16; next += words {
				all = append(all, span{next, words, p.Arg})
			}
		case 2:
			all = append(all, span{at, 16 * p.Arg, 3})
		}
	}
	return all
}

// known is a heap that may be, and its objects.
type known struct {
	name    string
	h       api.Heap
	objects map[int]api.Head
}

// build is a heap of pages, with objects by their addresses, each so many-th card dirty (none of 0), and noise in all words but the first ones of cells.
func build(name string, l []api.Page, objects map[int]api.Head, free api.Lists, dirty int) known {
	h := api.Heap{Pages: slices.Clone(l), Free: cloneLists(free)}
	for i := range 16 * len(l) {
		h.W = append(h.W, noise(16+i))
	}
	for _, c := range cellsOf(l) {
		h.W[c.at-16] = word(objects[c.at])
	}
	for i := range 2 * len(l) {
		h.Cards = append(h.Cards, dirty > 0 && i%dirty == 0)
	}
	return known{name, h, objects}
}

// epoch is the cycle in which the objects of the heaps at hand have their colours.
const epoch = 5

// signs are heads, by which the cells of a heap are told: white ones, grey ones, black ones, in a minor cycle; and old ones, which in a major one are white (o, O), grey (p, P) and black (q, Q).
func signs() map[byte]api.Head {
	return map[byte]api.Head{
		'w': {Mark: epoch - 1}, 'W': {Mark: 0, Done: true, Born: epoch}, 'g': {Mark: epoch}, 'G': {Mark: 1 << 20, Born: 1 << 20}, 'b': {Mark: epoch, Done: true, Born: 2}, 'B': {Mark: epoch + 1, Done: true},
		'o': {Old: true, Mark: 0}, 'O': {Old: true, Mark: epoch - 1, Done: true}, 'p': {Old: true, Mark: epoch, Born: 1}, 'P': {Old: true, Mark: epoch + 1}, 'q': {Old: true, Mark: epoch, Done: true}, 'Q': {Old: true, Mark: 1 << 20, Done: true, Born: 1},
	}
}

// laid is a heap of pages, each cell of which is, in turn, by a pattern: an object, by its sign, or told of by Free (f), or by none (-). A large one is always an object, white, if its sign is none's.
func laid(l []api.Page, pattern string, dirty int) known {
	objects, free := map[int]api.Head{}, api.Lists{}
	for next, c := range cellsOf(l) {
		sign := pattern[next%len(pattern)]
		x, object := signs()[sign]
		switch {
		case object, c.class == 3:
			x.Used, x.N = true, c.words-1
			objects[c.at] = x
		case sign == 'f':
			free[c.class] = append(free[c.class], c.at)
		}
	}
	return build(fmt.Sprint(l, pattern, dirty), l, objects, free, dirty)
}

// mixed is a heap of all kinds of pages, side by side, with objects of every colour, cells of each class on Free, and such as a thread's cache may have.
func mixed() known {
	l := slices.Concat([]api.Page{small(0), small(1)}, run(1), []api.Page{free, small(2)}, run(3), []api.Page{free, small(2)}, run(2), run(4), []api.Page{small(1), free})
	objects := map[int]api.Head{
		16: {N: 1, Mark: 4}, 18: {Old: true, N: 1, Mark: 4}, 22: {Old: true, Done: true, N: 1, Mark: 5}, 24: {Done: true, N: 1, Mark: 5}, 26: {N: 1, Mark: 5}, 30: {N: 1, Mark: 6},
		32: {Done: true, N: 3, Born: 7}, 36: {Done: true, N: 2, Mark: 1 << 20}, 44: {Old: true, N: 3, Born: 1, Mark: 5}, 48: {N: 9, Mark: 5}, 80: {N: 7, Mark: 1}, 96: {Old: true, Done: true, N: 40, Mark: 2},
		168: {Done: true, N: 4, Mark: 4}, 176: {Done: true, N: 31, Born: 3, Mark: 5}, 208: {N: 63}, 272: {Old: true, N: 3, Mark: 9}, 276: {Done: true, N: 2, Mark: 7}, 284: {N: 2, Born: 5, Mark: 5},
	}
	for a, x := range objects {
		x.Used = true
		objects[a] = x
	}
	return build("mixed", l, objects, api.Lists{{28, 20}, {40}, {160}}, 3)
}

func cloneLists(l api.Lists) api.Lists {
	for class := range l {
		l[class] = slices.Clone(l[class])
	}
	return l
}

func clone(h api.Heap) api.Heap {
	return api.Heap{W: slices.Clone(h.W), Pages: slices.Clone(h.Pages), Free: cloneLists(h.Free), Cards: slices.Clone(h.Cards)}
}

func cloneCol(c api.Col) api.Col {
	c.Work = slices.Clone(c.Work)
	return c
}

func same(h, g api.Heap) bool {
	for class := range h.Free {
		if !slices.Equal(h.Free[class], g.Free[class]) {
			return false
		}
	}
	return slices.Equal(h.W, g.W) && slices.Equal(h.Pages, g.Pages) && slices.Equal(h.Cards, g.Cards)
}

func sameCol(c, d api.Col) bool {
	return c.Phase == d.Phase && c.Epoch == d.Epoch && c.Major == d.Major && slices.Equal(c.Work, d.Work) && c.Over == d.Over &&
		c.At == d.At && c.Field == d.Field && c.Seek == d.Seek && c.Card == d.Card && c.Met == d.Met
}

// answer is what a call tells: those of its parts that the call has.
type answer struct {
	h  api.Heap
	c  api.Col
	l  []int
	ok bool
}

func white(h api.Heap, c api.Col, a int) answer { return answer{ok: shade.White(h, c, a)} }

func grey(h api.Heap, c api.Col) answer { return answer{l: shade.Grey(h, c)} }

func shaded(h api.Heap, c api.Col, a int) answer {
	g, d := shade.Shade(h, c, a)
	return answer{h: g, c: d}
}

func black(h api.Heap, c api.Col, a int) answer {
	g, ok := shade.Black(h, c, a)
	return answer{h: g, ok: ok}
}

func (a answer) copied() answer { return answer{clone(a.h), cloneCol(a.c), slices.Clone(a.l), a.ok} }

// is tells whether two answers are the same, but that lists without elements may be nil or empty (R6).
func (a answer) is(b answer) bool {
	return same(a.h, b.h) && sameCol(a.c, b.c) && slices.Equal(a.l, b.l) && a.ok == b.ok
}

// hold holds an answer against what it should be.
func hold(t *testing.T, name string, got, want answer) {
	t.Helper()
	if !got.is(want) {
		t.Fatalf("%s: %v; want %v", name, got, want)
	}
}

// sayColour says again which colour an object has, by its head: 0, left out, to 3, black; 9, if there is no such cycle.
func sayColour(x api.Head, c api.Col) int {
	if c.Epoch < 0 || c.Epoch > 1048576 {
		return 9
	}
	if x.Old && !c.Major {
		return 0
	}
	if x.Mark < c.Epoch {
		return 1
	}
	if !x.Done {
		return 2
	}
	return 3
}

// colour says again which colour the object has that begins at a; 9, if none does.
func (k known) colour(c api.Col, a int) int {
	if x, begins := k.objects[a]; begins {
		return sayColour(x, c)
	}
	return 9
}

// coloured are the addresses of all objects of a colour, rising.
func (k known) coloured(c api.Col, colour int) []int {
	var l []int
	for a, x := range k.objects {
		if sayColour(x, c) == colour {
			l = append(l, a)
		}
	}
	slices.Sort(l)
	return l
}

// with is the heap with another head of the object at a, and all else as it was.
func (k known) with(a int, x api.Head) api.Heap {
	h := clone(k.h)
	h.W[a-16] = word(x)
	return h
}

// sayShade says again what the chapter says of Shade.
func (k known) sayShade(c api.Col, a int) answer {
	c = cloneCol(c)
	if k.colour(c, a) != 1 {
		return answer{h: k.h, c: c}
	}
	x := k.objects[a]
	x.Mark, x.Done = c.Epoch, false
	if len(c.Work) < 4 {
		c.Work = append(c.Work, a)
	} else {
		c.Over = true
	}
	return answer{h: k.with(a, x), c: c}
}

// sayBlack says again what the chapter says of Black.
func (k known) sayBlack(c api.Col, a int) answer {
	if k.colour(c, a) != 2 {
		return answer{h: k.h}
	}
	x := k.objects[a]
	x.Done = true
	return answer{h: k.with(a, x), ok: true}
}

// far are numbers so far off that a sum, or a product, of them leaves 64 bits, or wraps into what is right in fewer.
var far = []int{math.MinInt, math.MinInt + 1, math.MinInt + 16, math.MinInt32, -1 << 61, -1 << 60, -1 << 32, -1<<32 + 16, 1 << 16, 1<<16 + 16, 1 << 32, 1<<32 + 16, 1<<32 + 48, 1 << 60, 1 << 61, 1<<61 + 16, 1 << 62, math.MaxInt - 16, math.MaxInt - 15, math.MaxInt - 1, math.MaxInt}

// wrongEpochs are numbers of cycles that there are not.
var wrongEpochs = []int{-1, -2, -5, 1<<20 + 1, 1<<20 + 2, 1<<20 + epoch, 1 << 21, math.MinInt32, math.MaxInt32, -1 << 32, -1<<32 + epoch, 1 << 32, 1<<32 + epoch, math.MinInt, math.MinInt + epoch, math.MaxInt - 1, math.MaxInt}

// minor and major are cycles, with nothing on Work.
func minor(n int) api.Col { return api.Col{Epoch: n} }
func major(n int) api.Col { return api.Col{Epoch: n, Major: true} }

// cols are collectors of all kinds: in a minor and in a major cycle, the first and the last one, with Work empty, with room, full, and too long, and with Over already; also such as may not be.
func cols() []api.Col {
	all := []api.Col{
		minor(0), major(0), minor(1), major(1), minor(4), major(6), minor(7), minor(1 << 20), major(1 << 20),
		{Phase: api.Roots, Epoch: epoch, Work: []int{}},
		{Phase: api.Scan, Epoch: epoch, Work: []int{26, 30, 48}, At: 16, Field: 2, Seek: 18, Card: 3, Met: true},
		{Phase: api.Trace, Epoch: epoch, Major: true, Work: []int{26, 30, 48, 284}, At: 30, Field: -1, Seek: 96},
		{Phase: api.Trace, Epoch: epoch, Major: true, Work: []int{16, 16}, Over: true, Met: true},
		{Phase: api.Sweep, Epoch: epoch, Work: []int{1, 2, 3, 4}, Over: true, Seek: 40},
		{Phase: -7, Epoch: epoch, Major: true, Work: []int{0, -1, math.MaxInt, math.MinInt, 16, 16, 16}, At: math.MinInt, Field: math.MaxInt, Seek: -1, Card: 1 << 40},
	}
	for i, n := range wrongEpochs {
		all = append(all, api.Col{Phase: api.Trace, Epoch: n, Major: i%2 == 0, Work: []int{26, 48}[:i%3], Over: i%5 == 0, At: 26, Card: i})
	}
	return append(all, api.Col{Epoch: -1}, api.Col{Epoch: 1<<20 + 1, Major: true})
}

// good are heaps that may be.
func good() []known {
	bare := mixed()
	bare.name, bare.h.Free = "mixed, with nothing told of", api.Lists{}
	whole := mixed()
	whole.name, whole.h.Free = "mixed, whole", api.Lists{{28, 20}, {280, 40}, {88, 160}}
	all := []known{
		mixed(), bare, whole,
		build("one free page", lots(1), nil, api.Lists{}, 1),
		build("nil and empty lists", []api.Page{small(2), free}, map[int]api.Head{16: {Used: true, N: 4, Mark: 5}, 24: {Used: true, N: 5, Mark: 4}}, api.Lists{{}, nil, {}}, 2),
		build("64 free pages", lots(64), nil, api.Lists{}, 5),
		laid(slices.Repeat(slices.Concat(run(4), run(2), run(1), run(1)), 8), "wgbo", 4),
		laid(slices.Repeat(slices.Concat([]api.Page{small(0), free, small(1)}, run(1), []api.Page{small(2)}, run(3)), 8), "wgffbo-GBpWq", 7),
	}
	for class := range 3 {
		for _, pattern := range []string{"w", "g", "b", "o", "p", "f", "-", "fg", "wgb-fQ"} {
			all = append(all, laid([]api.Page{small(class)}, pattern, 1), laid(slices.Repeat([]api.Page{small(class)}, 3), pattern, 2))
		}
		all = append(all, laid(slices.Repeat([]api.Page{small(class)}, 64), "wgbofGP", 3))
	}
	return all
}

// shortPages are all pages that may be, and are as many.
func shortPages(n int) [][]api.Page {
	if n == 0 {
		return [][]api.Page{nil}
	}
	var all [][]api.Page
	for _, first := range [][]api.Page{{free}, {small(0)}, {small(1)}, {small(2)}, run(1), run(2), run(3), run(4)} {
		if len(first) > n {
			continue
		}
		for _, more := range shortPages(n - len(first)) {
			all = append(all, slices.Concat(first, more))
		}
	}
	return all
}

// shorts are all short heaps, with cells that are objects of every colour, and on Free, in many ways.
func shorts() []known {
	var all []known
	for n := 1; n <= 4; n++ {
		for i, l := range shortPages(n) {
			for j, pattern := range []string{"w", "g", "bw", "fog", "wGfbpo", "QWBq-gP", "OwgPbfG"} {
				if n < 3 || (i+j)%(5*n-13) == 0 { // of the many longest ones not all
					all = append(all, laid(l, pattern, (i+2*j)%4))
				}
			}
		}
	}
	return all
}

// bad are heaps that may not be: each of what heap's chapter asks for is missing in one at least.
func bad() []known {
	changed := func(name string, change func(h *api.Heap)) known {
		k := mixed()
		change(&k.h)
		return known{name, k.h, nil}
	}
	first := func(name string, a, w int) known {
		return changed(name, func(h *api.Heap) { h.W[a-16] = w })
	}
	page := func(name string, at int, p api.Page) known {
		return changed(name, func(h *api.Heap) { h.Pages[at] = p })
	}
	onFree := func(name string, class, a int) known {
		return changed(name, func(h *api.Heap) { h.Free[class] = append(h.Free[class], a) })
	}
	return []known{
		{name: "nothing at all"}, {name: "empty", h: api.Heap{W: []int{}, Pages: []api.Page{}, Cards: []bool{}}}, build("65 pages", lots(65), nil, api.Lists{}, 1),
		{name: "words alone", h: api.Heap{W: make([]int, 32)}}, {name: "cards alone", h: api.Heap{Cards: make([]bool, 4)}}, {name: "pages alone", h: api.Heap{Pages: lots(2)}},
		changed("no words", func(h *api.Heap) { h.W = nil }), changed("no pages", func(h *api.Heap) { h.Pages = nil }), changed("no cards", func(h *api.Heap) { h.Cards = nil }),
		changed("a word less", func(h *api.Heap) { h.W = h.W[:len(h.W)-1] }), changed("a page of words more", func(h *api.Heap) { h.W = append(h.W, make([]int, 16)...) }),
		changed("a page less", func(h *api.Heap) { h.Pages = h.Pages[:len(h.Pages)-1] }), changed("a page more", func(h *api.Heap) { h.Pages = append(h.Pages, free) }),
		changed("a card less", func(h *api.Heap) { h.Cards = h.Cards[:35] }), changed("a card more", func(h *api.Heap) { h.Cards = append(h.Cards, true) }),
		page("a free page with an Arg", 3, api.Page{Kind: 0, Arg: 1}), page("a kind that there is not", 3, api.Page{Kind: 4}), page("a page that goes on behind none", 3, rest), page("one that does not go on", 6, free), page("a class that there is not", 0, small(3)), page("a large object of five", 2, large(5)),
		first("a first word that is no head's", 30, 2), first("a word below 0", 16, -1), first("a large object that is not used", 48, 0), first("as many fields as are another class's", 36, word(api.Head{Used: true, N: 4})), first("as many fields as are of another run", 176, word(api.Head{Used: true, N: 8})), first("a cell of Free that is used", 28, word(api.Head{Used: true, N: 1})), first("a Mark behind the last cycle", 26, word(api.Head{Used: true, N: 1, Mark: 1<<20 + 1})),
		onFree("Free tells of an address twice", 0, 28), onFree("of one below all", 0, 0), onFree("of one in the midst of a cell", 0, 27), onFree("of one on a free page", 0, 64), onFree("of one of another class", 0, 280), onFree("of an object", 1, 32), onFree("of one behind all", 2, 304), onFree("of one far off", 1, math.MinInt),
	}
}

// addresses are all of a heap's words, some on either side, and far ones.
func addresses(h api.Heap) []int {
	l := slices.Clone(far)
	for a := -20; a < 16+len(h.W)+20; a++ {
		l = append(l, a)
	}
	return l
}

// The test's own heaps are as they should be, and so is what is said of them.
func TestHeaps(t *testing.T) {
	for _, k := range slices.Concat(good(), shorts()) {
		if used := heap.Used(k.h); !heap.May(k.h) || len(used) != len(k.objects) {
			t.Fatalf("%s: may not be, or has other objects: %v; want %v", k.name, used, k.objects)
		}
		for a, x := range k.objects {
			if y, e := heap.Head(k.h, a); y != x || e != api.OK {
				t.Fatalf("%s: at %d: %v; want %v", k.name, a, y, x)
			}
		}
	}
	for _, k := range bad() {
		if heap.May(k.h) {
			t.Fatalf("%s: may be", k.name)
		}
	}
	if !heap.Whole(good()[2].h) {
		t.Fatal("not whole")
	}
}

// P11.1: White, told by hand: of objects of each colour, in a minor and in a major cycle, and of addresses at which none begins.
func TestWhiteKnown(t *testing.T) {
	k := mixed()
	for _, c := range []struct {
		name         string
		a            int
		minor, major bool
	}{
		{"marked in the cycle ahead", 16, true, true}, {"old, marked in the cycle ahead", 18, false, true}, {"old, marked now, done", 22, false, false}, {"marked now, done", 24, false, false}, {"marked now", 26, false, false}, {"marked later", 30, false, false},
		{"never marked, but done", 32, true, true}, {"marked last of all, done", 36, false, false}, {"old, marked now", 44, false, false}, {"large, marked now", 48, false, false}, {"marked long ago", 80, true, true}, {"large, old, marked long ago", 96, false, true},
		{"marked in the cycle ahead, done", 168, true, true}, {"large, done", 176, false, false}, {"large, never marked", 208, true, true}, {"old, marked later", 272, false, false}, {"marked later, done", 276, false, false}, {"born and marked now", 284, false, false},
		{"a free cell", 20, false, false}, {"a free cell of another class", 160, false, false}, {"a cell told of by none", 88, false, false}, {"a free page", 64, false, false}, {"the midst of a free page", 75, false, false}, {"the last page, free", 288, false, false},
		{"the midst of a white object", 17, false, false}, {"the last word of one", 35, false, false}, {"the midst of a large one", 209, false, false}, {"where a large one goes on", 224, false, false}, {"its last word", 271, false, false},
		{"just below the first word", 15, false, false}, {"the last word", 303, false, false}, {"behind the last word", 304, false, false}, {"0", 0, false, false}, {"below 0", -1, false, false}, {"below 0, as far as an object is above", -16, false, false}, {"the least", math.MinInt, false, false}, {"the greatest", math.MaxInt, false, false}, {"far outside, and at an object in 32 bits", 1<<32 + 16, false, false},
	} {
		hold(t, "White in a minor cycle: "+c.name, white(k.h, minor(5), c.a), answer{ok: c.minor})
		hold(t, "White in a major cycle: "+c.name, white(k.h, major(5), c.a), answer{ok: c.major})
	}
}

// P11.1: White of one object, by its Mark and the cycle, told by hand: the first and the last cycle, and such as there are not.
func TestWhiteByCycle(t *testing.T) {
	for _, c := range []struct {
		mark, epoch int
		white       bool
	}{
		{0, 0, false}, {1, 0, false}, {1 << 20, 0, false}, {0, 1, true}, {1, 1, false}, {2, 1, false}, {0, 2, true}, {1, 2, true}, {2, 2, false},
		{0, 1 << 20, true}, {1<<20 - 1, 1 << 20, true}, {1 << 20, 1 << 20, false}, {1<<20 - 2, 1<<20 - 1, true}, {1<<20 - 1, 1<<20 - 1, false}, {1 << 20, 1<<20 - 1, false},
		{0, 1<<20 + 1, false}, {1 << 20, 1<<20 + 1, false}, {0, -1, false}, {0, math.MinInt, false}, {0, math.MaxInt, false}, {4, 1<<32 + 5, false}, {0, 1 << 32, false},
	} {
		for _, done := range []bool{false, true} {
			k := build("one", []api.Page{small(1), free}, map[int]api.Head{20: {Used: true, Done: done, N: 3, Born: 1, Mark: c.mark}}, api.Lists{{}, {16}}, 1)
			name := fmt.Sprint("Mark ", c.mark, ", Epoch ", c.epoch)
			hold(t, "White in a minor cycle: "+name, white(k.h, minor(c.epoch), 20), answer{ok: c.white})
			hold(t, "White in a major cycle: "+name, white(k.h, major(c.epoch), 20), answer{ok: c.white})
			k.h.W[4] += 2 // old
			hold(t, "White of an old one in a minor cycle: "+name, white(k.h, minor(c.epoch), 20), answer{})
			hold(t, "White of an old one in a major cycle: "+name, white(k.h, major(c.epoch), 20), answer{ok: c.white})
		}
	}
}

// P11.1: Grey, told by hand: of a heap with several, in some cycles; with one; with none.
func TestGreyKnown(t *testing.T) {
	k := mixed()
	for _, c := range []struct {
		c api.Col
		l []int
	}{
		{minor(5), []int{26, 30, 48, 284}}, {major(5), []int{26, 30, 44, 48, 272, 284}}, {minor(6), []int{30}}, {major(6), []int{30, 272}}, {minor(7), nil}, {major(9), []int{272}}, {major(10), nil}, {minor(1 << 20), nil},
		{minor(0), []int{16, 26, 30, 48, 80, 208, 284}}, {major(0), []int{16, 18, 26, 30, 44, 48, 80, 208, 272, 284}}, {minor(1), []int{16, 26, 30, 48, 80, 284}},
		{minor(-1), nil}, {major(-1), nil}, {minor(1<<20 + 1), nil}, {major(1<<20 + 1), nil}, {major(math.MinInt), nil}, {major(math.MaxInt), nil}, {minor(1<<32 + 5), nil}, {minor(-1<<32 + 5), nil},
	} {
		hold(t, fmt.Sprint("Grey: ", c.c), grey(k.h, c.c), answer{l: c.l})
	}
	for _, pattern := range []string{"w", "b", "o", "p", "q", "f", "-", "wWbBoOpPqQf-"} {
		hold(t, "Grey where none is: "+pattern, grey(laid([]api.Page{small(0), small(2), small(1)}, pattern, 1).h, minor(5)), answer{})
	}
	hold(t, "Grey where all are", grey(laid(append([]api.Page{small(2), free, small(1)}, run(2)...), "gG", 1).h, minor(5)), answer{l: []int{16, 24, 48, 52, 56, 60, 64}})
	hold(t, "Grey of free pages", grey(build("", lots(3), nil, api.Lists{}, 1).h, minor(0)), answer{})
}

// P11.2: Shade, told by hand, with Work empty, with room, full, and too long, and with Over already.
func TestShadeKnown(t *testing.T) {
	k := mixed()
	for _, c := range []struct {
		name       string
		work, then []int
		was, over  bool
	}{
		{"nil", nil, []int{80}, false, false}, {"empty", []int{}, []int{80}, false, false}, {"one", []int{26}, []int{26, 80}, false, false}, {"three", []int{48, 26, 30}, []int{48, 26, 30, 80}, false, false}, {"four", []int{48, 26, 284, 30}, []int{48, 26, 284, 30}, false, true}, {"five", []int{5, 4, 3, 2, 1}, []int{5, 4, 3, 2, 1}, false, true},
		{"none, Over already", nil, []int{80}, true, true}, {"three, Over already", []int{1, 2, 3}, []int{1, 2, 3, 80}, true, true}, {"four, Over already", []int{48, 26, 284, 30}, []int{48, 26, 284, 30}, true, true}, {"itself already", []int{80}, []int{80, 80}, false, false},
	} {
		for _, more := range []api.Col{minor(5), major(5), {Phase: api.Scan, Epoch: 5, At: 18, Field: 1, Seek: 40, Card: 3, Met: true}} {
			ahead, behind := more, more
			ahead.Work, ahead.Over, behind.Work, behind.Over = c.work, c.was, c.then, c.over
			hold(t, "Shade, on Work "+c.name, shaded(k.h, ahead, 80), answer{h: k.with(80, api.Head{Used: true, N: 7, Mark: 5}), c: behind})
		}
	}
}

// P11.2: Shade of objects of each colour, told by hand: what is white has Epoch as Mark and is not done, and is as it was else; all others are as they were.
func TestShadeColours(t *testing.T) {
	k := mixed()
	for _, c := range []struct {
		c api.Col
		a int
		x api.Head
	}{
		{minor(5), 16, api.Head{Used: true, N: 1, Mark: 5}}, {minor(5), 32, api.Head{Used: true, N: 3, Born: 7, Mark: 5}}, {minor(5), 168, api.Head{Used: true, N: 4, Mark: 5}}, {minor(5), 208, api.Head{Used: true, N: 63, Mark: 5}},
		{major(5), 18, api.Head{Used: true, Old: true, N: 1, Mark: 5}}, {major(5), 96, api.Head{Used: true, Old: true, N: 40, Mark: 5}}, {major(5), 16, api.Head{Used: true, N: 1, Mark: 5}},
		{minor(6), 24, api.Head{Used: true, N: 1, Mark: 6}}, {minor(6), 284, api.Head{Used: true, N: 2, Born: 5, Mark: 6}}, {minor(8), 276, api.Head{Used: true, N: 2, Mark: 8}}, {major(1 << 20), 272, api.Head{Used: true, Old: true, N: 3, Mark: 1 << 20}}, {major(1 << 20), 176, api.Head{Used: true, N: 31, Born: 3, Mark: 1 << 20}}, {minor(1), 32, api.Head{Used: true, N: 3, Born: 7, Mark: 1}},
	} {
		behind := c.c
		behind.Work = []int{c.a}
		hold(t, fmt.Sprint("Shade at ", c.a, ", ", c.c), shaded(k.h, c.c, c.a), answer{h: k.with(c.a, c.x), c: behind})
	}
	for _, l := range []struct {
		c  api.Col
		as []int
	}{
		{minor(5), []int{18, 22, 24, 26, 30, 36, 44, 48, 96, 176, 272, 276, 284, 20, 160, 88, 64, 75, 288, 17, 35, 209, 224, 271, 15, 303, 304, 0, -1, -16, math.MinInt, math.MaxInt, 1<<32 + 16}},
		{major(5), []int{22, 24, 26, 30, 36, 44, 48, 176, 272, 276, 284, 20, 160, 97, 19, 0}}, {minor(0), []int{16, 18, 32, 80, 208}}, {major(0), []int{16, 18, 32, 80, 96, 208}}, {minor(1 << 20), []int{18, 36, 96}}, {major(1 << 20), []int{36}},
		{minor(-1), []int{16, 26, 0}}, {major(-1), []int{16, 18}}, {minor(1<<20 + 1), []int{16, 36, 208}}, {major(1<<20 + 1), []int{16, 18, 36}}, {major(math.MaxInt), []int{16, 96}}, {minor(1<<32 + 5), []int{16, 80}},
	} {
		for _, a := range l.as {
			hold(t, fmt.Sprint("Shade at ", a, ", ", l.c), shaded(k.h, l.c, a), answer{h: k.h, c: l.c})
			full := l.c
			full.Work = []int{1, 2, 3, 4}
			hold(t, fmt.Sprint("Shade at ", a, ", ", full), shaded(k.h, full, a), answer{h: k.h, c: full})
		}
	}
}

// P11.3: Black of objects of each colour, told by hand: what is grey is done, and is as it was else; all others are as they were.
func TestBlackKnown(t *testing.T) {
	k := mixed()
	for _, c := range []struct {
		c api.Col
		a int
		x api.Head
	}{
		{minor(5), 26, api.Head{Used: true, Done: true, N: 1, Mark: 5}}, {minor(5), 30, api.Head{Used: true, Done: true, N: 1, Mark: 6}}, {minor(5), 48, api.Head{Used: true, Done: true, N: 9, Mark: 5}}, {minor(5), 284, api.Head{Used: true, Done: true, N: 2, Born: 5, Mark: 5}},
		{major(5), 26, api.Head{Used: true, Done: true, N: 1, Mark: 5}}, {major(5), 44, api.Head{Used: true, Old: true, Done: true, N: 3, Born: 1, Mark: 5}}, {major(5), 272, api.Head{Used: true, Old: true, Done: true, N: 3, Mark: 9}},
		{minor(0), 16, api.Head{Used: true, Done: true, N: 1, Mark: 4}}, {minor(0), 208, api.Head{Used: true, Done: true, N: 63}}, {major(0), 18, api.Head{Used: true, Old: true, Done: true, N: 1, Mark: 4}}, {minor(6), 30, api.Head{Used: true, Done: true, N: 1, Mark: 6}},
	} {
		hold(t, fmt.Sprint("Black at ", c.a, ", ", c.c), black(k.h, c.c, c.a), answer{h: k.with(c.a, c.x), ok: true})
	}
	for _, l := range []struct {
		c  api.Col
		as []int
	}{
		{minor(5), []int{16, 18, 22, 24, 32, 36, 44, 80, 96, 168, 176, 208, 272, 276, 20, 160, 88, 64, 75, 288, 27, 49, 63, 15, 303, 304, 0, -1, math.MinInt, math.MaxInt, 1<<32 + 26}},
		{major(5), []int{16, 18, 22, 24, 36, 96, 176, 276, 20, 0}}, {minor(0), []int{18, 44, 272, 24, 32}}, {major(0), []int{22, 24, 32, 96}}, {minor(1 << 20), []int{16, 36}},
		{minor(-1), []int{16, 26, 30, 48}}, {major(-1), []int{26, 44}}, {minor(1<<20 + 1), []int{26, 36, 48}}, {major(math.MinInt), []int{26, 44, 272}}, {major(math.MaxInt), []int{26, 44, 272}}, {minor(1<<32 + 5), []int{26}}, {minor(-1<<32 + 5), []int{26}},
	} {
		for _, a := range l.as {
			hold(t, fmt.Sprint("Black at ", a, ", ", l.c), black(k.h, l.c, a), answer{h: k.h})
		}
	}
}

// check holds all calls of an address against the chapter's words.
func check(t *testing.T, k known, c api.Col, a int) {
	t.Helper()
	got := []answer{white(k.h, c, a), shaded(k.h, c, a), black(k.h, c, a)}
	for i, want := range []answer{{ok: k.colour(c, a) == 1}, k.sayShade(c, a), k.sayBlack(c, a)} {
		if !got[i].is(want) {
			t.Fatalf("%s, %v, at %d: %s: %v; want %v", k.name, c, a, []string{"White", "Shade", "Black"}[i], got[i], want)
		}
	}
}

// checkGrey holds Grey against the chapter's words.
func checkGrey(t *testing.T, k known, c api.Col) {
	t.Helper()
	hold(t, fmt.Sprint(k.name, ", ", c, ": Grey"), grey(k.h, c), answer{l: k.coloured(c, 2)})
}

// P11.1, P11.2, P11.3, R1: all heaps and collectors at hand, at all addresses, near and far.
func TestAll(t *testing.T) {
	for _, k := range good() {
		for i, c := range cols() {
			if len(k.h.W) < 500 || i%3 == 0 { // of the greatest heaps not all
				checkGrey(t, k, c)
			}
			for j, a := range addresses(k.h) {
				if len(k.h.W) < 40 || (i+j)%(1+len(k.h.W)/20) == 0 {
					check(t, k, c, a)
				}
			}
		}
	}
}

// P11.1, P11.2, P11.3: all short heaps, with cells that are objects of every colour, and on Free, in many ways.
func TestShort(t *testing.T) {
	for i, k := range shorts() {
		all := cols()
		for j := range 5 {
			c := all[(i+j*7)%len(all)]
			if j > 1 { // in which colours are many
				c.Epoch = epoch - j/4
			}
			checkGrey(t, k, c)
			for a := range k.objects {
				check(t, k, c, a)
			}
			for a := 14 + (i+j)%5; a < 20+len(k.h.W); a += 5 {
				check(t, k, c, a)
			}
		}
	}
}

// P11.1, P11.2, P11.3: one object of each kind, with every head there is around a cycle, and at the limits; beside it one that is not looked at.
func TestHeads(t *testing.T) {
	for way := range 8 {
		for _, born := range []int{0, 5, 1 << 20} {
			for _, mark := range []int{0, 1, 4, 5, 6, 1<<20 - 1, 1 << 20} {
				for _, at := range []struct{ a, n int }{{16, 1}, {52, 2}, {72, 5}, {80, 8}, {96, 31}} {
					objects := map[int]api.Head{80: {Used: true, N: 8, Old: true}, 96: {Used: true, N: 31, Old: true}}
					objects[at.a] = api.Head{Used: true, Old: way&1 != 0, Done: way&2 != 0, N: at.n, Born: born, Mark: mark}
					k := build(fmt.Sprint(objects), append([]api.Page{small(0), free, small(1), small(2), large(1)}, run(2)...), objects, api.Lists{{18}, {48}, {64}}, 2)
					for _, n := range []int{0, 1, 5, 1<<20 - 1, 1 << 20, -1, 1<<20 + 1} {
						c := api.Col{Phase: api.Trace, Epoch: n, Major: way&4 != 0}
						check(t, k, c, at.a)
						checkGrey(t, k, c)
					}
				}
			}
		}
	}
}

// then is the heap behind an answer, with its objects' heads, as heap tells them.
func (k known) then(t *testing.T, h api.Heap) known {
	t.Helper()
	next := known{k.name, h, map[int]api.Head{}}
	for _, a := range heap.Used(h) {
		next.objects[a], _ = heap.Head(h, a)
	}
	if !heap.May(h) || len(next.objects) != len(k.objects) {
		t.Fatalf("%s: behind it the heap has other objects: %v", k.name, next.objects)
	}
	return next
}

// P11.4: what is shaded is white no more, but grey, and no other object's colour, and no page, card, word and free cell besides, changes; likewise what is turned black.
func TestNothingElse(t *testing.T) {
	for i, k := range slices.Concat(good()[:8], shorts()[:200]) {
		for _, c := range []api.Col{cols()[i%len(cols())], minor(epoch), {Epoch: epoch, Major: true, Work: []int{1, 2, 3, 4}}} {
			for j, a := range heap.Used(k.h) {
				if len(k.objects) > 30 && j%9 != 0 { // of the greatest heaps a part
					continue
				}
				was := k.colour(c, a)
				nothingElse(t, k, c, a, shaded(k.h, c, a).h, map[bool]int{true: 2, false: was}[was == 1])
				nothingElse(t, k, c, a, black(k.h, c, a).h, map[bool]int{true: 3, false: was}[was == 2])
			}
		}
	}
}

// nothingElse tells whether the object at a has a colour in a heap that is answered, and all else is as it was.
func nothingElse(t *testing.T, k known, c api.Col, a int, h api.Heap, colour int) {
	t.Helper()
	then := k.then(t, h)
	for b := range k.objects {
		want := k.colour(c, b)
		if b == a {
			want = colour
		}
		if got := then.colour(c, b); got != want {
			t.Fatalf("%s, %v: changed at %d: the colour at %d is %d; want %d", k.name, c, a, b, got, want)
		}
	}
	h = clone(h)
	h.W[a-16] = k.h.W[a-16]
	if !same(h, k.h) {
		t.Fatalf("%s, %v: changed at %d: more than the first word of the object is another", k.name, c, a)
	}
}

// P11.4: what is grey is on Work, or the collector is Over, where that was so ahead: all objects shaded one behind the other, some of which are turned black, and taken from Work.
func TestKnownOf(t *testing.T) {
	for _, k := range slices.Concat(good()[:8], shorts()[:300]) {
		for _, c := range []api.Col{minor(epoch + 2), major(epoch + 2), minor(1 << 20)} {
			h := k.h
			c.Over = len(shade.Grey(h, c)) > 0 // what is grey already is on no list
			for i, a := range heap.Used(h) {
				h, c = shade.Shade(h, c, a)
				if len(c.Work) == 3 && i%2 == 0 {
					at := c.Work[1]
					if h, c.Work = black(h, c, at).h, slices.Delete(c.Work, 1, 2); slices.Contains(shade.Grey(h, c), at) {
						t.Fatalf("%s: %d is grey still", k.name, at)
					}
				}
				for _, g := range shade.Grey(h, c) {
					if !c.Over && !slices.Contains(c.Work, g) {
						t.Fatalf("%s, %v: %d is grey, and not known of", k.name, c, g)
					}
				}
				if len(c.Work) > 4 {
					t.Fatalf("%s: on Work are %v", k.name, c.Work)
				}
				if len(k.objects) > 40 && i > 20 {
					break
				}
			}
		}
	}
}

// P11.4: in the next cycle what was black is white again, but what is old, in a minor one; cycle by cycle all is shaded, and turned black.
func TestNextCycle(t *testing.T) {
	k := laid(slices.Concat([]api.Page{small(0), free, small(1)}, run(2), []api.Page{small(2)}, run(1)), "woWOwf", 3)
	h := k.h
	for n := epoch; n < epoch+7; n++ {
		c := api.Col{Epoch: n, Major: n%3 == 0, Over: true}
		for a, x := range k.objects {
			left := x.Old && !c.Major
			if got := shade.White(h, c, a); got == left {
				t.Fatalf("cycle %d: at %d: white: %t", n, a, got)
			}
			h, _ = shade.Shade(h, c, a)
			if got := slices.Contains(shade.Grey(h, c), a); got == left || shade.White(h, c, a) {
				t.Fatalf("cycle %d: at %d: grey: %t, or white still", n, a, got)
			}
			turned := false
			if h, turned = shade.Black(h, c, a); turned == left {
				t.Fatalf("cycle %d: at %d: turned black: %t", n, a, turned)
			}
			if got := black(h, c, a); got.ok || !same(got.h, h) || shade.White(h, c, a) {
				t.Fatalf("cycle %d: at %d: black twice", n, a)
			}
		}
		if l := shade.Grey(h, c); len(l) != 0 {
			t.Fatalf("cycle %d: grey at its end: %v", n, l)
		}
	}
}

// P11.1, P11.2, P11.3: objects that are taken one behind the other, by two threads, while cycles go on, some of which are shaded, turned black, or grow old: at each step all calls tell of those.
func TestTaken(t *testing.T) {
	fields := []int{1, 8, 3, 20, 5, 2, 1, 63, 7, 40, 1, 1, 9, 4, 3, 33, 1, 2}
	for _, pages := range []int{1, 3, 9} {
		k := known{name: fmt.Sprint(pages, " pages"), objects: map[int]api.Head{}}
		k.h, _ = heap.New(pages)
		var caches [2]api.Lists
		for i := range 60 {
			c := api.Col{Phase: api.Trace, Epoch: 1 + i/6, Major: i/6%3 == 0, Work: []int{1, 2, 3, 4}[:i%5]}
			if h, cache, a, e := alloc.Take(k.h, caches[i%2], api.Head{Used: true, Done: i%4 == 1, N: fields[i*5%18], Born: c.Epoch, Mark: c.Epoch - i%3/2}); e == api.OK {
				caches[i%2] = cache
				k = known{k.name, h, map[int]api.Head{}}
				for _, at := range heap.Used(h) {
					k.objects[at], _ = heap.Head(h, at)
				}
				check(t, k, c, a)
			}
			checkGrey(t, k, c)
			for _, a := range heap.Used(k.h) {
				check(t, k, c, a)
				switch (a + i) % 5 {
				case 0:
					k = k.then(t, shaded(k.h, c, a).h)
				case 1:
					k = k.then(t, black(k.h, c, a).h)
				case 2:
					x := k.objects[a]
					x.Old = true
					h, _ := heap.Set(k.h, a, x)
					k = k.then(t, h)
				}
			}
		}
	}
}

// P11.1, P11.2, P11.3, R1: of heaps that may not be nothing is white, nor grey, and Shade and Black answer them as they were, with the collector as it was.
func TestWrongHeaps(t *testing.T) {
	all := append(addresses(mixed().h), 1040)
	objects := mixed().objects
	for _, k := range bad() {
		for i, c := range cols() {
			checkGrey(t, k, c)
			for j, a := range all {
				if _, begins := objects[a]; begins || (i+j)%9 == 0 {
					check(t, k, c, a)
				}
			}
		}
	}
}

// call is one of the package's, with what it is asked.
type call struct {
	name string
	ask  func(h api.Heap, c api.Col) answer
}

// calls are all of the package's, at some addresses that a heap may have, or not.
func calls() []call {
	l := []call{{"Grey", grey}}
	for _, a := range []int{-16, 0, 15, 16, 17, 18, 24, 26, 31, 32, 44, 48, 96, 208, 303, 304, math.MinInt, math.MaxInt} {
		l = append(l,
			call{fmt.Sprint("White at ", a), func(h api.Heap, c api.Col) answer { return white(h, c, a) }},
			call{fmt.Sprint("Shade at ", a), func(h api.Heap, c api.Col) answer { return shaded(h, c, a) }},
			call{fmt.Sprint("Black at ", a), func(h api.Heap, c api.Col) answer { return black(h, c, a) }})
	}
	return l
}

// roomy is a heap and a collector with room behind each list's last element; and a function that tells whether all of it, with that room, is as it was.
func roomy(h api.Heap, c api.Col) (api.Heap, api.Col, func() bool) {
	whole, all := clone(h), cloneCol(c)
	whole.W = append(whole.W, 71, 72, 73)
	whole.Pages = append(whole.Pages, small(1), small(2))
	whole.Cards = append(whole.Cards, true, false, true)
	all.Work = append(all.Work, 81, 82, 83)
	for class := range whole.Free {
		whole.Free[class] = append(whole.Free[class], 9001, 9002, 9003)
	}
	was, allWas := clone(whole), cloneCol(all)
	short := api.Heap{W: whole.W[:len(h.W)], Pages: whole.Pages[:len(h.Pages)], Cards: whole.Cards[:len(h.Cards)]}
	for class := range whole.Free {
		short.Free[class] = whole.Free[class][:len(h.Free[class])]
	}
	d := all
	d.Work = all.Work[:len(c.Work)]
	return short, d, func() bool { return same(whole, was) && sameCol(all, allWas) }
}

// parts are functions each of which writes over one list of what was answered, and over the room behind its end.
func parts(a answer) []func() {
	words := func(l []int) func() {
		return func() {
			for i := range l[:cap(l)] {
				l[:cap(l)][i] = -77
			}
		}
	}
	return []func(){words(a.h.W), words(a.h.Free[0]), words(a.h.Free[1]), words(a.h.Free[2]), words(a.l), words(a.c.Work), func() {
		for i := range a.h.Pages[:cap(a.h.Pages)] {
			a.h.Pages[:cap(a.h.Pages)][i] = api.Page{Kind: 77, Arg: 77}
		}
	}, func() {
		for i := range a.h.Cards[:cap(a.h.Cards)] {
			a.h.Cards[:cap(a.h.Cards)][i] = !a.h.Cards[:cap(a.h.Cards)][i]
		}
	}}
}

// spoil writes over all lists of what was answered.
func spoil(a answer) {
	for _, part := range parts(a) {
		part()
	}
}

// R3: what is handed in stays as it was, also behind its end, and what stands there changes no answer.
func TestHandedIn(t *testing.T) {
	for i, k := range slices.Concat(good(), bad()) {
		for j, c := range cols() {
			for n, f := range calls() {
				if (i+j+n)%4 != 0 && i > 3 {
					continue
				}
				short, col, kept := roomy(k.h, c)
				want := f.ask(k.h, c)
				hold(t, fmt.Sprint(k.name, ": ", f.name, " of one with room behind its lists"), f.ask(short, col), want)
				if !kept() {
					t.Fatalf("%s: %s: what was handed in is another one", k.name, f.name)
				}
			}
		}
	}
}

// R3: what is answered is the caller's own, words, pages, lists, cards and Work, and what Grey tells, also where all is as it was, and of what may not be: written over it changes nothing of what was handed in, nor of another answer; nor the other way round.
func TestAnsweredOwn(t *testing.T) {
	for i, k := range slices.Concat(good(), bad()) {
		for j, c := range cols() {
			for n, f := range calls() {
				if (i+j+n)%4 != 0 && i > 3 {
					continue
				}
				short, col, kept := roomy(k.h, c)
				first, second := f.ask(short, col), f.ask(short, col)
				want := second.copied()
				spoil(first)
				if !kept() || !second.is(want) {
					t.Fatalf("%s: what %s answered is shared", k.name, f.name)
				}
				third, fourth := shaded(second.h, second.c, 16), black(second.h, second.c, 26)
				kth, nth := third.copied(), fourth.copied()
				spoil(answer{h: short, c: col})
				if !second.is(want) || !third.is(kth) || !fourth.is(nth) {
					t.Fatalf("%s: what %s was handed is shared", k.name, f.name)
				}
				spoil(second)
				if !third.is(kth) || !fourth.is(nth) {
					t.Fatalf("%s: what was answered, and handed in, is shared", k.name)
				}
			}
		}
	}
}

// R3: no two lists of one answer share memory: each of them written over, with the room behind its end, changes none but itself.
func TestAnswersApart(t *testing.T) {
	for _, k := range good()[:10] {
		for _, c := range cols()[9:20] {
			for _, f := range calls() {
				want := f.ask(k.h, c)
				for i := range parts(answer{}) {
					got := f.ask(k.h, c)
					parts(got)[i]()
					if n := differ(got, want); n > 1 {
						t.Errorf("%s: of what %s answered %d lists changed, not one", k.name, f.name, n)
					}
				}
			}
		}
	}
}

// differ is in how many lists two answers differ.
func differ(a, b answer) int {
	n := 0
	for _, is := range []bool{slices.Equal(a.h.W, b.h.W), slices.Equal(a.h.Pages, b.h.Pages), slices.Equal(a.h.Cards, b.h.Cards), slices.Equal(a.c.Work, b.c.Work), slices.Equal(a.l, b.l),
		slices.Equal(a.h.Free[0], b.h.Free[0]), slices.Equal(a.h.Free[1], b.h.Free[1]), slices.Equal(a.h.Free[2], b.h.Free[2])} {
		if !is {
			n++
		}
	}
	return n
}

// R3: lists of Free and Work that were handed in on one piece of memory, one behind the other, with room behind each.
func TestSharedAhead(t *testing.T) {
	all := []int{18, 20, 36, 40, 56, 48, 16, 16}
	k := build("shared", []api.Page{small(0), small(1), small(2)}, map[int]api.Head{16: {Used: true, N: 1}, 32: {Used: true, N: 3, Mark: 4}, 48: {Used: true, N: 7, Mark: 5}}, api.Lists{}, 4)
	k.h.Free = api.Lists{all[:2], all[2:4], all[4:5]}
	c := api.Col{Epoch: 5, Work: all[5:6]}
	for _, f := range calls() {
		got := f.ask(k.h, c)
		spoil(got)
		if !slices.Equal(all, []int{18, 20, 36, 40, 56, 48, 16, 16}) {
			t.Fatalf("%s: what was handed in is %v", f.name, all)
		}
	}
	for a := 14; a < 66; a++ {
		check(t, k, c, a)
	}
}

// R5: what is asked again is answered alike, whatever was asked between.
func TestAskedAgain(t *testing.T) {
	k, c := mixed(), cols()[10]
	var want []answer
	for _, f := range calls() {
		want = append(want, f.ask(k.h, c).copied())
	}
	for i, other := range slices.Concat(bad(), good()) {
		for _, f := range calls() {
			f.ask(other.h, cols()[i%len(cols())])
		}
		for i, f := range calls() {
			hold(t, fmt.Sprint("behind ", other.name, ": ", f.name), f.ask(k.h, c), want[i])
		}
	}
}

// The chapter's example.
func TestExample(t *testing.T) {
	h, _ := heap.New(1)
	h, _, a, e := alloc.Take(h, api.Lists{}, api.Head{Used: true, N: 2})
	if e != api.OK || !shade.White(h, minor(1), a) || len(shade.Grey(h, minor(1))) != 0 {
		t.Fatalf("at %d: %d, or not white", a, e)
	}
	h, c := shade.Shade(h, minor(1), a)
	if x, _ := heap.Head(h, a); x != (api.Head{Used: true, N: 2, Mark: 1}) || !slices.Equal(shade.Grey(h, c), []int{a}) {
		t.Errorf("%v is not grey", x)
	}
	if !sameCol(c, api.Col{Epoch: 1, Work: []int{a}}) {
		t.Errorf("the collector is %v", c)
	}
}
