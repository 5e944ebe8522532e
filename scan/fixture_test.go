package scan_test

import (
	"math"
	"reflect"
	"slices"
	"testing"

	"ragpicker/api"
	"ragpicker/fresh"
	"ragpicker/heap"
	"ragpicker/scan"
	"ragpicker/shade"
)

// far are numbers so far off that they would be right, if fewer bits of them were looked at, or a sum or a product of them wraps.
var far = []int{
	math.MinInt, math.MinInt + 1, math.MinInt + 2, math.MinInt + 18, math.MinInt32, -1 << 61, -1<<61 + 2, -1 << 32, -1<<32 + 18, -1<<16 + 1, -256, -238,
	1<<8 + 2, 1<<8 + 18, 1 << 16, 1<<16 + 1, 1<<16 + 18, math.MaxInt32, 1 << 32, 1<<32 + 2, 1<<32 + 18, 1 << 60, 1<<61 + 1, 1 << 62, math.MaxInt - 18, math.MaxInt - 1, math.MaxInt,
}

// others are all phases but Scan, and such as there are not.
var others = append([]int{api.Idle, api.Arm, api.Settle, api.Roots, api.Trace, api.Sweep, -1, -2, -4, api.Phases, 8, 9, 12, 1<<8 + 4, 1<<16 + 4, 1<<32 + 4, -1<<32 + 4, math.MinInt + 4}, far...)

// noEpochs are numbers of cycles that there are not: nothing is white then.
var noEpochs = []int{-1, -5, 1<<20 + 1, 1<<20 + 5, 1 << 21, 1 << 32, 1<<32 + 5, -1<<32 + 5, math.MinInt, math.MinInt + 5, math.MaxInt}

// state is what a step is given, and what all is behind it.
type state struct {
	H api.Heap
	C api.Col
}

func step(x state) state {
	h, c := scan.Step(x.H, x.C)
	return state{h, c}
}

// clone is x with memory of its own.
func clone(x state) state { return state{fresh.Heap(x.H), fresh.Col(x.C)} }

// same tells whether two states are the same, but that lists without elements may be nil or empty (R6).
func same(x, y state) bool {
	for k := range api.Classes {
		if !slices.Equal(x.H.Free[k], y.H.Free[k]) {
			return false
		}
	}
	alike := slices.Equal(x.H.W, y.H.W) && slices.Equal(x.H.Pages, y.H.Pages) && slices.Equal(x.H.Cards, y.H.Cards) && slices.Equal(x.C.Work, y.C.Work)
	x.C.Work, y.C.Work = nil, nil
	return alike && reflect.DeepEqual(x.C, y.C)
}

// check holds what a step of x answers against what is wanted.
func check(t *testing.T, name string, x, want state) {
	t.Helper()
	if got := step(x); !same(got, want) {
		t.Fatalf("%s: %v:\n got %v, %v\nwant %v, %v", name, x.C, got.C, got.H, want.C, want.H)
	}
}

// word is a head's word, as chapter 1 says it.
func word(x api.Head) int {
	w := 8*x.N + x.Born<<10 + x.Mark<<32
	for i, is := range []bool{x.Used, x.Old, x.Done} {
		if is {
			w |= 1 << i
		}
	}
	return w
}

// head is the head whose word stands at a, where a cell begins.
func (x state) head(a int) api.Head {
	w := x.H.W[a-16]
	return api.Head{Used: w&1 != 0, Old: w&2 != 0, Done: w&4 != 0, N: w >> 3 & 63, Born: w >> 10 & (1<<21 - 1), Mark: w >> 32}
}

// starts are the addresses at which cells begin on pages that may be, rising, as chapter 5 says it.
func starts(l []api.Page) []int {
	var all []int
	for page, p := range l {
		room := 16
		if p.Kind == api.PageSmall {
			room = 2 << p.Arg
		} else if p.Kind != api.PageLarge {
			continue
		}
		for i := 0; i < 16; i += room {
			all = append(all, 16+16*page+i)
		}
	}
	return all
}

// objects are the addresses at which objects begin, rising.
func (x state) objects() []int {
	return slices.DeleteFunc(starts(x.H.Pages), func(a int) bool { return !x.head(a).Used })
}

// young tells whether an object begins at a that is not old, white whether it is white, as chapter 11 says it, too.
func (x state) young(a int) bool { return slices.Contains(x.objects(), a) && !x.head(a).Old }

func (x state) white(a int) bool {
	return x.young(a) && 0 <= x.C.Epoch && x.C.Epoch <= 1<<20 && x.head(a).Mark < x.C.Epoch
}

// on are the old objects that begin on a card, rising.
func (x state) on(card int) []int {
	return slices.DeleteFunc(x.objects(), func(a int) bool { return (a-16)/8 != card || !x.head(a).Old })
}

// field is what the field f has of the object at a.
func (x state) field(a, f int) int { return x.H.W[a-16+1+f] }

// has is x with another head of the object at a.
func (x state) has(a int, y api.Head) state {
	x = clone(x)
	y.Used = true
	x.H.W[a-16] = word(y)
	return x
}

// leads is x with something in the field f of the object at a.
func (x state) leads(a, f, to int) state {
	x = clone(x)
	x.H.W[a-16+1+f] = to
	return x
}

// marked is x with an object's Mark the Epoch: it is grey then.
func (x state) marked(a int) state {
	y := x.head(a)
	y.Mark, y.Done = x.C.Epoch, false
	return x.has(a, y)
}

// shaded is x with what begins at a grey, and known of, if it was not old, and white.
func (x state) shaded(a int) state {
	if !x.white(a) {
		return x
	}
	if x = x.marked(a); len(x.C.Work) < 4 {
		x.C.Work = append(x.C.Work, a)
	} else {
		x.C.Over = true
	}
	return x
}

// dirty is x with a card dirty, or clean.
func (x state) dirty(card int, is bool) state {
	x = clone(x)
	x.H.Cards[card] = is
	return x
}

// card, at, seek, met, work, over and major are x with that of its collector.
func (x state) card(card int) state {
	x.C.Card = card
	return x
}

func (x state) at(a, f int) state {
	x.C.At, x.C.Field = a, f
	return x
}

func (x state) seek(a int) state {
	x.C.Seek = a
	return x
}

func (x state) met(is bool) state {
	x.C.Met = is
	return x
}

func (x state) work(l ...int) state {
	x.C.Work = l
	return x
}

func (x state) over(is bool) state {
	x.C.Over = is
	return x
}

func (x state) major(is bool) state {
	x.C.Major = is
	return x
}

// left is x behind a card that is gone through no more, and traced x behind the last step.
func (x state) left() state { return x.card(x.C.Card + 1).seek(0).met(false) }

func (x state) traced() state {
	x = x.at(0, 0).seek(0).card(0).met(false)
	x.C.Phase = api.Trace
	return x
}

// small and run are pages: one of small cells, and all that a large object has.
func small(class int) api.Page { return api.Page{Kind: api.PageSmall, Arg: class} }

func run(n int) []api.Page {
	return append([]api.Page{{Kind: api.PageLarge, Arg: n}}, slices.Repeat([]api.Page{{Kind: api.PageRest}}, n-1)...)
}

// noise are so many words, that look like old heads, or like others, or like addresses, or are nothing at all.
func noise(n int) []int {
	some := []int{18, word(api.Head{Used: true, Old: true, N: 3}), -1, 16, word(api.Head{Used: true, N: 1, Mark: 4}), 1 << 40, 0, word(api.Head{Used: true, Old: true, N: 1, Mark: 5}), math.MinInt, 56, 2}
	l := make([]int, n)
	for i := range l {
		l[i] = some[i%len(some)]
	}
	return l
}

// ours are the objects of the heap at hand, but for Used, rising; and of which colour each one that is not old is in the cycle 5.
var ours = []struct {
	a      int
	colour string
	head   api.Head
}{
	{16, "white", api.Head{N: 1, Mark: 4}}, {18, "", api.Head{N: 1, Old: true, Mark: 4}}, {20, "grey", api.Head{N: 1, Mark: 5}}, {22, "", api.Head{N: 1, Old: true, Mark: 5}},
	{24, "", api.Head{N: 1, Old: true, Done: true, Mark: 6}}, {26, "black", api.Head{N: 1, Done: true, Mark: 5, Born: 5}},
	{32, "", api.Head{N: 3, Old: true, Mark: 5, Born: 2}}, {36, "", api.Head{N: 2, Old: true, Done: true, Born: 1}},
	{40, "white", api.Head{N: 3, Done: true, Mark: 4, Born: 4}}, {48, "", api.Head{N: 7, Old: true}}, {56, "white", api.Head{N: 4}},
	{80, "", api.Head{N: 12, Old: true, Mark: 6}}, {96, "", api.Head{N: 20, Old: true, Mark: 4, Born: 5}}, {128, "grey", api.Head{N: 5, Mark: 1 << 20}}, {136, "", api.Head{N: 4, Old: true, Mark: 1 << 20}},
}

// nobody are addresses at which none of its objects begins: cells that are free, on Free or not; inside objects, where a large one goes on, and its last word; a free page; the last words, and those behind them; 1, below 0, and far outside.
var nobody = append([]int{28, 30, 44, 17, 19, 25, 33, 35, 39, 49, 55, 81, 95, 97, 112, 127, 137, 140, 141, 143, 144, 145, 160, 64, 66, 79, 15, 2, 1, -1, -2, -16, -18, -32}, far...)

// mixed is a heap of all kinds of pages, side by side, with objects of each class, and large ones, old and not, of every colour in the cycle 5; words that nobody asks about look like something. It has 16 cards, from 0 on; those that are dirty are 0, 1, 4, 6, 11 and 15. The collector is in Scan, ahead of the card 0.
func mixed() state {
	l := slices.Concat([]api.Page{small(0), small(1), small(2), {}}, run(1), run(2), []api.Page{small(2)})
	h := api.Heap{W: noise(16 * len(l)), Pages: l, Free: api.Lists{{28}, {44}, nil}, Cards: make([]bool, 2*len(l))}
	for _, a := range starts(l) {
		h.W[a-16] = 0
	}
	x := state{h, api.Col{Phase: api.Scan, Epoch: 5}}
	for _, one := range ours {
		x = x.has(one.a, one.head)
	}
	for _, card := range []int{0, 1, 4, 6, 11, 15} {
		x.H.Cards[card] = true
	}
	return x
}

// parts are what a collector may have beside its Phase, Epoch and Card, and a Seek that is not 0.
var parts = []api.Col{
	{Seek: 1}, {At: 16, Field: 1, Met: true, Seek: 18}, {At: 18, Over: true, Work: []int{16, 20}, Seek: -1}, {At: 17, Field: -1, Seek: 144, Met: true, Work: []int{26, 0, 16, 17}},
	{At: -1, Field: 2, Over: true, Met: true, Work: []int{1, 2, 3, 4, 5, 6}, Seek: 22}, {At: math.MinInt, Field: math.MaxInt, Seek: math.MinInt}, {At: math.MaxInt, Field: math.MinInt, Work: []int{48}, Seek: math.MaxInt, Major: true},
	{At: 32, Field: 1, Major: true, Met: true, Work: []int{}, Seek: 2},
}

// with is x with a part of a collector.
func (x state) with(c api.Col) state {
	return x.at(c.At, c.Field).seek(c.Seek).met(c.Met).work(c.Work...).over(c.Over).major(c.Major)
}

// busy are collectors, of the heap at hand, whose next step is one of each kind.
func busy() map[string]state {
	return map[string]state{
		"no card":             mixed().card(16).at(18, 0).seek(20).met(true),
		"a card far off":      mixed().card(math.MaxInt),
		"a clean card":        mixed().card(2).at(18, 0),
		"a dirty card":        mixed().card(4).at(32, 1).met(true),
		"a field":             mixed().at(32, 1).seek(18).leads(32, 1, 56),
		"the last field":      mixed().at(18, 0).seek(18).leads(18, 0, 16),
		"no field":            mixed().at(18, 1).seek(18),
		"no object":           mixed().at(17, 0).seek(18),
		"an object":           mixed().at(0, 4).seek(18).met(true),
		"no more objects":     mixed().at(0, 4).seek(22).work(16),
		"no more, behind Met": mixed().card(2).seek(36).met(true).over(true),
	}
}

// wrongHeaps are heaps that may not be.
func wrongHeaps() map[string]api.Heap {
	m := map[string]api.Heap{
		"nothing at all": {}, "no pages": {W: []int{}, Pages: []api.Page{}, Cards: []bool{}}, "no pages, but cards": {Cards: make([]bool, 16)},
		"65 pages":    {W: make([]int, 65*16), Pages: make([]api.Page, 65), Cards: make([]bool, 130)},
		"words alone": {W: make([]int, 32)}, "pages alone": {Pages: make([]api.Page, 2)},
	}
	for name, change := range map[string]func(h *api.Heap){
		"no words":                         func(h *api.Heap) { h.W = nil },
		"no pages to its words":            func(h *api.Heap) { h.Pages = nil },
		"no cards":                         func(h *api.Heap) { h.Cards = nil },
		"a word less":                      func(h *api.Heap) { h.W = h.W[:127] },
		"a page less":                      func(h *api.Heap) { h.Pages = h.Pages[:7] },
		"a card less":                      func(h *api.Heap) { h.Cards = h.Cards[:15] },
		"a card more":                      func(h *api.Heap) { h.Cards = append(h.Cards, true) },
		"a kind of page that there is not": func(h *api.Heap) { h.Pages[3].Kind = api.Kinds },
		"a class that there is not":        func(h *api.Heap) { h.Pages[0].Arg = 3 },
		"a large page that does not go on": func(h *api.Heap) { h.Pages[6] = api.Page{} },
		"a first word that is no head's":   func(h *api.Heap) { h.W[20-16] = -1 },
		"a large page without an object":   func(h *api.Heap) { h.W[80-16] = 0 },
		"too many fields for a cell":       func(h *api.Heap) { h.W[36-16] = word(api.Head{Used: true, N: 4}) },
		"an object of no fields":           func(h *api.Heap) { h.W[18-16] = word(api.Head{Used: true, Old: true}) },
		"a cell on Free twice":             func(h *api.Heap) { h.Free[0] = []int{28, 30, 28} },
		"a cell on Free that is used":      func(h *api.Heap) { h.Free[1] = []int{32} },
		"an address on Free far off":       func(h *api.Heap) { h.Free[2] = []int{math.MaxInt} },
	} {
		x := mixed()
		change(&x.H)
		m[name] = x.H
	}
	return m
}

// chance hands out numbers below n, one behind the other, the same ones each time.
func chance() func(n int) int {
	seed := uint64(1)
	return func(n int) int {
		seed = seed*6364136223846793005 + 1442695040888963407
		return int((seed >> 33) % uint64(n))
	}
}

// The heap at hand is such as the tests mean, and so are its objects.
func TestAtHand(t *testing.T) {
	x := mixed()
	if l := heap.Used(x.H); !heap.May(x.H) || !slices.Equal(l, x.objects()) || len(l) != len(ours) || len(x.H.Cards) != 16 {
		t.Fatalf("objects at %v", l)
	}
	for _, one := range ours {
		y := one.head
		y.Used = true
		if got, e := heap.Head(x.H, one.a); e != api.OK || got != y || x.head(one.a) != y {
			t.Errorf("another object: %v", one)
		}
		if y.Old != (one.colour == "") || x.white(one.a) != (one.colour == "white") || x.white(one.a) != shade.White(x.H, x.C, one.a) {
			t.Errorf("another colour: %v", one)
		}
		if slices.Contains(shade.Grey(x.H, x.C), one.a) != (one.colour == "grey") {
			t.Errorf("another colour: %v", one)
		}
	}
	for _, a := range nobody {
		if _, e := heap.Head(x.H, a); e == api.OK {
			t.Errorf("an object at %d", a)
		}
	}
	for name, h := range wrongHeaps() {
		if heap.May(h) {
			t.Errorf("%s: that heap may be", name)
		}
	}
	for name, x := range busy() {
		if !heap.May(x.H) || same(step(x), x) {
			t.Errorf("%s: a step changes nothing", name)
		}
	}
}
