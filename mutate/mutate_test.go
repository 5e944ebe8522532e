package mutate_test

import (
	"fmt"
	"math"
	"slices"
	"testing"

	"ragpicker/alloc"
	"ragpicker/api"
	"ragpicker/cards"
	"ragpicker/cells"
	"ragpicker/fresh"
	"ragpicker/heap"
	"ragpicker/mutate"
	"ragpicker/reap"
	"ragpicker/regs"
	"ragpicker/shade"
)

// far are numbers so far off that they would be right, if fewer bits of them were looked at, or a sum of them wraps.
var far = []int{
	math.MinInt, math.MinInt + 1, math.MinInt + 3, math.MinInt32, -1 << 32, -1<<32 + 2, -1<<16 + 1, -256, -255,
	1 << 8, 1<<8 + 1, 1<<8 + 3, 1 << 16, 1<<16 + 2, 1 << 32, 1<<32 + 3, 1 << 62, math.MaxInt - 3, math.MaxInt,
}

// wrongRegisters are numbers of registers that there are not.
var wrongRegisters = append([]int{-1, -2, 4, 5, 16, 36}, far...)

// state is what a step is handed.
type state struct {
	h api.Heap
	c api.Col
	t api.Thread
}

// answer is what a step tells: what all is behind it, and a Result, if one is told.
type answer struct {
	state
	r    api.Result
	told bool
}

func step(x state) answer {
	h, c, t, r, told := mutate.Step(x.h, x.c, x.t)
	return answer{state{h, c, t}, r, told}
}

// copied is x with memory of its own.
func (x state) copied() state {
	return state{fresh.Heap(x.h), fresh.Col(x.c), fresh.Thread(x.t)}
}

// does is x with an operation to do, and others behind it.
func (x state) does(op api.Op) state {
	x.t.Do = []api.Op{op, {Kind: api.Size, A: 1}, op}
	return x
}

// at is x with a Pc, and with something at hand.
func (x state) at(pc, atX, atY int) state {
	x.t.Pc, x.t.X, x.t.Y = pc, atX, atY
	return x
}

// holds is x with something else in its registers.
func (x state) holds(r0, r1, r2, r3 int) state {
	x.t.R = [4]int{r0, r1, r2, r3}
	return x
}

// word is x with another word at an address.
func (x state) word(a, w int) state {
	x.h.W = slices.Clone(x.h.W)
	x.h.W[a-16] = w
	return x
}

// dirty is x with a card dirty.
func (x state) dirty(card int) state {
	x.h.Cards = slices.Clone(x.h.Cards)
	x.h.Cards[card] = true
	return x
}

// phase is x with the collector in a phase.
func (x state) phase(p int) state {
	x.c.Phase = p
	return x
}

// done is x behind the last step of its first operation.
func (x state) done() state {
	x = x.at(0, 0, 0)
	x.t.Do = x.t.Do[1:]
	return x
}

// quiet is what is answered, where nothing is told, and x is what all is then.
func (x state) quiet() answer { return answer{state: x} }

// tells is what is answered, where something is told of an operation, and x is what all is then.
func (x state) tells(op api.Op, e api.Errno, val int) answer {
	return answer{x, api.Result{Op: op, E: e, Val: val}, true}
}

// ends is what is answered, where something is told of the first operation of x, which is done then, and nothing else changes.
func (x state) ends(e api.Errno, val int) answer { return x.done().tells(x.t.Do[0], e, val) }

func sameLists(l, m api.Lists) bool {
	for class := range l {
		if !slices.Equal(l[class], m[class]) {
			return false
		}
	}
	return true
}

// same tells whether two states are the same, but that lists without elements may be nil or empty (R6).
func (x state) same(y state) bool {
	heaps := slices.Equal(x.h.W, y.h.W) && slices.Equal(x.h.Pages, y.h.Pages) && sameLists(x.h.Free, y.h.Free) && slices.Equal(x.h.Cards, y.h.Cards)
	c, d := x.c, y.c
	cols := slices.Equal(c.Work, d.Work) && c.Phase == d.Phase && c.Epoch == d.Epoch && c.Major == d.Major && c.Over == d.Over &&
		c.At == d.At && c.Field == d.Field && c.Seek == d.Seek && c.Card == d.Card && c.Met == d.Met
	t, u := x.t, y.t
	threads := slices.Equal(t.Do, u.Do) && sameLists(t.Cache, u.Cache) && t.Live == u.Live && t.R == u.R &&
		t.Epoch == u.Epoch && t.Stage == u.Stage && t.Root == u.Root && t.Pc == u.Pc && t.X == u.X && t.Y == u.Y
	return heaps && cols && threads
}

func (a answer) same(b answer) bool { return a.state.same(b.state) && a.r == b.r && a.told == b.told }

// check holds a step of x against what is wanted of it.
func check(t *testing.T, name string, x state, want answer) {
	t.Helper()
	if got := step(x); !got.same(want) {
		t.Fatalf("%s: %v, Pc %d:\n got %v\nwant %v", name, x.t.Do[:min(1, len(x.t.Do))], x.t.Pc, got, want)
	}
}

// headWord is a head's word, as chapter 1 says it.
func headWord(x api.Head) int {
	w := 0
	for i, is := range []bool{x.Used, x.Old, x.Done} {
		if is {
			w += 1 << i
		}
	}
	return w + 8*x.N + 1024*x.Born + 4294967296*x.Mark
}

// object is one: its head, but for Used and N, and what its fields have.
type object struct {
	head   api.Head
	fields []int
}

// noise are so many words, that look like heads, or like addresses, or are nothing at all.
func noise(n int) []int {
	var l []int
	for i := range n {
		l = append(l, []int{36, 0, 65, headWord(api.Head{Used: true, N: 3, Mark: 4}), -1, 18, 1 << 40, headWord(api.Head{Used: true, N: 15}), math.MinInt, 16, 2}[i%11])
	}
	return l
}

// objects are those of the heap at hand, by where they begin. In the cycle 5 those at 16, 36 and 64 are white, and those at 32 and 80 in a major one; that at 18 is grey, those at 22 and 48 are black, or left out.
func objects() map[int]object {
	return map[int]object{
		16: {api.Head{Mark: 4}, []int{0}},
		18: {api.Head{Mark: 5}, []int{16}},
		22: {api.Head{Mark: 5, Done: true, Born: 5}, []int{-9}},
		32: {api.Head{Old: true}, []int{22, 33}},
		36: {api.Head{Mark: 1, Born: 2}, []int{0, 64, -1}},
		48: {api.Head{Old: true, Done: true, Mark: 5}, []int{80, 0, headWord(api.Head{Used: true, N: 1}), 48}},
		64: {api.Head{Done: true}, noise(15)},
		80: {api.Head{Old: true, Mark: 3}, noise(20)},
	}
}

// small and run are pages: one of small cells, and all that a large object has.
func small(class int) api.Page { return api.Page{Kind: api.PageSmall, Arg: class} }

func run(n int) []api.Page {
	return append([]api.Page{{Kind: api.PageLarge, Arg: n}}, slices.Repeat([]api.Page{{Kind: api.PageRest}}, n-1)...)
}

// mixed is a heap of all kinds of pages, side by side, with objects of each class, and large ones; words that nobody asks about look like something. Cells that are free are on Free, in the cache of the thread at hand, and (20, 44 and 56) in another one's. The thread has answered all there is in the cycle.
func mixed() state {
	l := slices.Concat([]api.Page{small(0), small(1), small(2)}, run(1), run(2), make([]api.Page, 3))
	h := api.Heap{W: noise(16 * len(l)), Pages: l, Free: api.Lists{{26, 24}, nil, nil}, Cards: make([]bool, 2*len(l))}
	for _, a := range cells.All(l) {
		h.W[a-16] = 0
	}
	for a, o := range objects() {
		o.head.Used, o.head.N = true, len(o.fields)
		h.W[a-16] = headWord(o.head)
		copy(h.W[a-15:], o.fields)
	}
	h.Cards[0], h.Cards[9] = true, true
	return state{h, api.Col{Phase: api.Trace, Epoch: 5, Work: []int{18}, Seek: 32, Card: 3}, api.Thread{
		Live: true, R: [4]int{36, 0, 80, 65}, Cache: api.Lists{{30, 28}, {40}, nil}, Epoch: 5, Stage: 3, Root: 1,
	}}
}

// others are the caches of the other threads of mixed.
func others() []api.Lists { return []api.Lists{{{20}, nil, nil}, {nil, {44}, {56}}} }

// full is a heap without room: its cells are objects, or another thread's, and no page is free.
func full() state {
	h, _ := heap.New(3)
	var c api.Lists
	for _, n := range []int{1, 3, 9} {
		h, c, _, _ = alloc.Take(h, c, api.Head{Used: true, N: n})
	}
	h.Free = api.Lists{}
	return state{h, api.Col{}, api.Thread{Live: true, R: [4]int{16, 32, 48, 0}}}
}

// one is a heap with room for one object alone, of some class, which may be on Free, or in the thread's cache.
func one(class int, cached bool) state {
	x := full()
	x.h.Pages, x.h.W, x.h.Cards = append(slices.Clone(x.h.Pages), small(class)), append(slices.Clone(x.h.W), make([]int, 16)...), append(slices.Clone(x.h.Cards), false, false)
	if cached {
		x.t.Cache[class] = []int{64}
	} else {
		x.h.Free[class] = []int{64}
	}
	return x
}

// edges are numbers of fields at each edge of class's Of and Run, and the sizes that these are of: -1, if there are too few, 9, if there are too many.
func edges() map[int]int {
	m := map[int]int{-1: -1, 0: -1, 1: 0, 2: 1, 3: 1, 4: 2, 7: 2, 8: 3, 15: 3, 16: 4, 31: 4, 32: 5, 47: 5, 48: 6, 63: 6, 64: 9, 65: 9}
	for _, n := range far {
		m[n] = 9
		if n < 1 {
			m[n] = -1
		}
	}
	return m
}

// P14.1: the heaps at hand are such as the tests mean: mixed is whole with all caches, and full has no room.
func TestAtHand(t *testing.T) {
	x := mixed()
	if !heap.Whole(x.h, append(others(), x.t.Cache)...) || !regs.May(x.t) {
		t.Errorf("mixed is not whole")
	}
	if l := heap.Used(x.h); len(l) != len(objects()) {
		t.Errorf("mixed has objects at %v", l)
	}
	for n, size := range edges() {
		if x := full(); !heap.May(x.h) || alloc.Room(x.h, x.t.Cache, n) {
			t.Errorf("full has room for %d", n)
		}
		for class := range api.Classes {
			for _, cached := range []bool{false, true} {
				if x := one(class, cached); !heap.May(x.h, x.t.Cache) || alloc.Room(x.h, x.t.Cache, n) != (size == class) {
					t.Errorf("one of class %d: %d fields", class, n)
				}
			}
		}
	}
}

// edge is what a thread has at an edge, or over one, and whether a step is taken then.
type edge struct {
	change func(x *api.Thread)
	taken  bool
}

// takenEdges are all that the chapter names, of threads of mixed.
func takenEdges() map[string]edge {
	m := map[string]edge{
		"nothing else":          {func(*api.Thread) {}, true},
		"lives no more":         {func(x *api.Thread) { x.Live = false }, false},
		"nothing to do":         {func(x *api.Thread) { x.Do = nil }, false},
		"an empty list to do":   {func(x *api.Thread) { x.Do = []api.Op{} }, false},
		"one operation":         {func(x *api.Thread) { x.Do = x.Do[:1] }, true},
		"200 operations":        {func(x *api.Thread) { x.Do = slices.Repeat(x.Do[:1], 200) }, true},
		"201 operations":        {func(x *api.Thread) { x.Do = slices.Repeat(x.Do[:1], 201) }, false},
		"nothing to do, Pc 1":   {func(x *api.Thread) { x.Do, x.Pc = nil, 1 }, false},
		"an Epoch far off":      {func(x *api.Thread) { x.Epoch = math.MinInt }, true},
		"a cell twice":          {func(x *api.Thread) { x.Cache[0] = []int{30, 28, 30} }, false},
		"a cell on Free, too":   {func(x *api.Thread) { x.Cache[0] = []int{24} }, false},
		"a cell that is used":   {func(x *api.Thread) { x.Cache[1] = []int{36} }, false},
		"a cell of a class not": {func(x *api.Thread) { x.Cache[2] = []int{40} }, false},
		"an address of no cell": {func(x *api.Thread) { x.Cache[1] = []int{41} }, false},
	}
	for _, n := range append([]int{-1, 0, 1, 2, 3, 4, 5}, far...) {
		m[fmt.Sprint("Stage ", n)] = edge{func(x *api.Thread) { x.Stage = n }, 0 <= n && n <= 3}
		m[fmt.Sprint("Root ", n)] = edge{func(x *api.Thread) { x.Root = n }, 0 <= n && n <= 3}
		m[fmt.Sprint("Pc ", n)] = edge{func(x *api.Thread) { x.Pc = n }, 0 <= n && n <= 4}
	}
	return m
}

// P14.1: no step is taken by a thread that may not be, or not with the heap, lives no more, or has nothing to do: all is as it was; of all kinds of operations, and of such as there are not. Where one is taken either something is told, or it is another Pc then.
func TestTakenByThreads(t *testing.T) {
	for name, edge := range takenEdges() {
		for kind := -2; kind <= api.Ops+1; kind++ {
			x := mixed().does(api.Op{Kind: kind, A: 2, B: 2, C: 2}).at(0, 36, 16)
			edge.change(&x.t)
			if !edge.taken {
				check(t, name, x, x.quiet())
			} else if got := step(x); !got.told && got.t.Pc == x.t.Pc {
				t.Errorf("%s: Kind %d: no step was taken", name, kind)
			}
		}
	}
}

// wrongHeaps are heaps that may not be.
func wrongHeaps() map[string]api.Heap {
	m := map[string]api.Heap{
		"nothing at all": {}, "empty": {W: []int{}, Pages: []api.Page{}, Cards: []bool{}},
		"65 pages": {W: make([]int, 65*16), Pages: make([]api.Page, 65), Cards: make([]bool, 130)},
	}
	for name, change := range map[string]func(h *api.Heap){
		"no words":                            func(h *api.Heap) { h.W = nil },
		"a word less":                         func(h *api.Heap) { h.W = h.W[1:] },
		"a page less":                         func(h *api.Heap) { h.Pages = h.Pages[:8] },
		"a card more":                         func(h *api.Heap) { h.Cards = append(h.Cards, true) },
		"a kind of page that there is not":    func(h *api.Heap) { h.Pages[8].Kind = api.Kinds },
		"a large page that does not go on":    func(h *api.Heap) { h.Pages[5] = api.Page{} },
		"a first word that is no head's":      func(h *api.Heap) { h.W[20-16] = -1 },
		"a large page without an object":      func(h *api.Heap) { h.W[64-16] = 0 },
		"too many fields for a cell":          func(h *api.Heap) { h.W[36-16] = headWord(api.Head{Used: true, N: 4}) },
		"a cell on Free twice":                func(h *api.Heap) { h.Free[0] = []int{24, 26, 24} },
		"a cell on Free that is used":         func(h *api.Heap) { h.Free[1] = []int{36} },
		"a cell on Free of the cache's":       func(h *api.Heap) { h.Free[1] = []int{40} },
		"an address on Free far off":          func(h *api.Heap) { h.Free[2] = []int{math.MaxInt} },
		"an address on Free, but for 32 bits": func(h *api.Heap) { h.Free[0] = []int{1<<32 + 24} },
	} {
		x := mixed()
		change(&x.h)
		m[name] = x.h
	}
	return m
}

// P14.1, R1: no step is taken of a heap that may not be with the thread's cache, whatever is to be done, at whatever Pc: all is as it was.
func TestWrongHeaps(t *testing.T) {
	for name, h := range wrongHeaps() {
		for kind := -2; kind <= api.Ops+1; kind++ {
			for pc := -1; pc <= 5; pc++ {
				for _, a := range []int{-1, 0, 2, 4} {
					x := mixed().does(api.Op{Kind: kind, A: a, B: 2, C: 1}).at(pc, 36, 16)
					x.h = h
					check(t, name, x, x.quiet())
				}
			}
		}
	}
}

// P14.1, New at Pc 0: its errors, each where those that are told behind it hold, too; nothing else changes.
func TestNewErrors(t *testing.T) {
	for name, x := range map[string]state{"mixed": mixed(), "full": full()} {
		for n, size := range edges() {
			for _, a := range append([]int{0, 3}, wrongRegisters...) {
				x := x.does(api.Op{Kind: api.New, A: a, B: n, C: -7}).at(0, 5, 6)
				switch {
				case a < 0 || a > 3 || size == -1:
					check(t, name, x, x.ends(api.ErrArg, 0))
				case size == 9:
					check(t, name, x, x.ends(api.ErrLong, 0))
				case name == "full":
					check(t, name, x, x.ends(api.ErrFull, 0))
				}
			}
		}
	}
}

// P14.1, New at Pc 0: of an object that would be black of a cycle that there is not no head may be: alloc's ErrArg, ahead of ErrFull, and behind class's ErrLong.
func TestNewWrongEpochs(t *testing.T) {
	for name, x := range map[string]state{"mixed": mixed(), "full": full()} {
		for _, epoch := range append([]int{-1, -2, 1<<20 + 1, 1<<20 + 5}, far...) {
			if 0 <= epoch && epoch <= 1<<20 {
				continue
			}
			x := x.does(api.Op{Kind: api.New, A: 3, B: 3})
			x.c.Phase, x.c.Epoch, x.t.Epoch, x.t.Stage = api.Trace, epoch, epoch, 3
			check(t, name, x, x.ends(api.ErrArg, 0))
			x.t.Do[0].B = 64
			check(t, name, x, x.ends(api.ErrLong, 0))
			x.t.Do[0].B, x.t.Stage = 3, 2
			if e := step(x).r.E; e != map[string]api.Errno{"mixed": api.OK, "full": api.ErrFull}[name] {
				t.Errorf("%s, Epoch %d, not black: %d", name, epoch, e)
			}
		}
	}
}

// P14.1, New at Pc 0: what is taken is alloc's Take of such a head; where it begins is at hand, as X; nothing is told.
func TestNewTakes(t *testing.T) {
	for name, x := range map[string]state{
		"the cache has some": mixed(), "none": func() state { x := mixed(); x.t.Cache = api.Lists{}; return x }(),
		"one of class 0 in the cache": one(0, true), "of 1": one(1, true), "of 2": one(2, true), "one of class 0 on Free": one(0, false), "on Free of 1": one(1, false), "on Free of 2": one(2, false),
	} {
		for n := 1; n <= 63; n++ {
			for a := range 4 {
				for _, black := range []bool{false, true} {
					x := x.does(api.Op{Kind: api.New, A: a, B: n}).at(0, 5, 6)
					x.c.Phase, x.c.Epoch, x.t.Epoch, x.t.Stage = api.Sweep, 9, 9, 2
					head := api.Head{Used: true, N: n}
					if black {
						x.t.Stage = 3
						head = api.Head{Used: true, Done: true, N: n, Born: 9, Mark: 9}
					}
					h, cache, at, e := alloc.Take(x.h, x.t.Cache, head)
					want := x.ends(e, 0)
					if e == api.OK {
						x := x.at(1, at, 6)
						x.h, x.t.Cache = h, cache
						want = x.quiet()
					}
					check(t, fmt.Sprint(name, ", black: ", black), x, want)
				}
			}
		}
	}
}

// P14.1, New at Pc 0: by hand, of a cache with a cell of the class, of Free, of a free page, and of two.
func TestNewByHand(t *testing.T) {
	none := api.Lists{}
	for _, c := range []struct {
		n           int
		cache, then api.Lists
		at          int
		free        api.Lists
		kind        int // of the first page that was free
	}{
		{1, api.Lists{{30, 28}, {40}, nil}, api.Lists{{30}, {40}, nil}, 28, api.Lists{{26, 24}}, api.PageFree},
		{2, api.Lists{{30, 28}, {40}, nil}, api.Lists{{30, 28}, {}, nil}, 40, api.Lists{{26, 24}}, api.PageFree},
		{1, none, api.Lists{{24}}, 26, none, api.PageFree},
		{7, none, api.Lists{nil, nil, {112}}, 120, api.Lists{{26, 24}}, api.PageSmall},
		{8, none, none, 112, api.Lists{{26, 24}}, api.PageLarge},
		{47, none, none, 112, api.Lists{{26, 24}}, api.PageLarge},
	} {
		x := mixed().does(api.Op{Kind: api.New, A: 1, B: c.n})
		x.t.Cache = c.cache
		got := step(x)
		if got.told || got.t.X != c.at || got.t.Pc != 1 || got.t.R != x.t.R || !sameLists(got.t.Cache, c.then) || !sameLists(got.h.Free, c.free) || got.h.Pages[6].Kind != c.kind {
			t.Fatalf("%d fields: %v", c.n, got)
		}
		want := append([]int{headWord(api.Head{Used: true, Done: true, N: c.n, Born: 5, Mark: 5})}, make([]int, c.n)...)
		if l := got.h.W[c.at-16:]; !slices.Equal(l[:c.n+1], want) {
			t.Errorf("%d fields: the object is %v; want %v", c.n, l[:c.n+1], want)
		}
	}
}

// P14.1, New at Pc 0: an object is black just where the thread's Epoch is the collector's, Stage is 3, and the Phase is not Idle; else it is of no cycle.
func TestNewBlack(t *testing.T) {
	for _, epoch := range []int{0, 1, 5, 1 << 20} {
		for _, phase := range []int{-1, 0, 1, 2, 3, 4, 5, 6, 7, math.MinInt, math.MaxInt, 1 << 32} {
			for stage := range 4 {
				for _, own := range []int{epoch, epoch - 1, epoch + 1, epoch + 1<<32} {
					x := mixed().does(api.Op{Kind: api.New, A: 0, B: 2})
					x.c.Phase, x.c.Epoch, x.t.Epoch, x.t.Stage = phase, epoch, own, stage
					want := api.Head{Used: true, N: 2}
					if own == epoch && stage == 3 && phase != 0 {
						want = api.Head{Used: true, Done: true, N: 2, Born: epoch, Mark: epoch}
					}
					got := step(x)
					if head, e := heap.Head(got.h, got.t.X); head != want || e != api.OK || got.t.Pc != 1 || got.told {
						t.Fatalf("Epoch %d and %d, Phase %d, Stage %d: %v; want %v", epoch, own, phase, stage, head, want)
					}
				}
			}
		}
	}
}

// P14.1, New at Pc 1 and each above it: what is at hand as X stands in the register, if there is one, whatever it is; 0 is told, and the operation is done.
func TestNewKeeps(t *testing.T) {
	for pc := 1; pc <= 4; pc++ {
		for _, n := range []int{-1, 0, 3, 63, 64} {
			for _, at := range []int{0, 16, 40, 37, -5, math.MaxInt} {
				x := mixed().at(pc, at, 18)
				for a := range 4 {
					x := x.does(api.Op{Kind: api.New, A: a, B: n})
					want := x.ends(api.OK, 0)
					want.t.R[a] = at
					check(t, "a register", x, want)
				}
				for _, a := range wrongRegisters {
					x := x.does(api.Op{Kind: api.New, A: a, B: n})
					check(t, "no register", x, x.ends(api.OK, 0))
				}
			}
		}
	}
}

// noObjects are what a register may have where no object begins: nothing, addresses inside small and large objects, of cells that are free, of free pages, of nobody, and far off.
var noObjects = append([]int{0, 37, 38, 39, 17, 33, 65, 79, 81, 96, 40, 44, 24, 28, 56, 112, 128, 159, 160, 15, 1, -16, -1, 1<<32 + 36}, far...)

// P14.1, Load: each register from each, each field, of each object; what is told; at every Pc alike.
func TestLoad(t *testing.T) {
	for at, o := range objects() {
		for r := range 4 {
			for f, has := range o.fields {
				a := (r + f) % 4
				x := mixed().does(api.Op{Kind: api.Load, A: a, B: r, C: f}).at(f%5, 7, -8)
				x.t.R[r] = at
				val := 1
				if has == 0 {
					val = 0
				}
				want := x.ends(api.OK, val)
				want.t.R[a] = has
				check(t, fmt.Sprint("object at ", at), x, want)
			}
		}
	}
}

// P14.1, R2, Load: its errors, each where those that are told behind it hold, too; no register changes.
func TestLoadErrors(t *testing.T) {
	for i, no := range wrongRegisters {
		for _, b := range []int{0, 1, -1, 4, math.MaxInt} {
			x := mixed().does(api.Op{Kind: api.Load, A: no, B: b, C: i%4 - 1}).at(i%5, 7, 7)
			check(t, "no register A", x, x.ends(api.ErrArg, 0))
			x = mixed().does(api.Op{Kind: api.Load, A: i % 4, B: no, C: b}).at(i%5, 7, 7)
			check(t, "no register B", x, x.ends(api.ErrArg, 0))
		}
	}
	for i, a := range noObjects {
		for f := -1; f < 4; f++ {
			x := mixed().holds(36, 18, a, 64).does(api.Op{Kind: api.Load, A: i % 4, B: 2, C: f})
			check(t, fmt.Sprint("no object at ", a), x, x.ends(api.ErrNil, 0))
		}
	}
	for at, o := range objects() {
		for _, f := range append([]int{-1, -2, len(o.fields), len(o.fields) + 1, 63, 64}, far...) {
			x := mixed().holds(at, at, at, at).does(api.Op{Kind: api.Load, A: 1, B: 3, C: f})
			check(t, fmt.Sprint("no field ", f, " at ", at), x, x.ends(api.ErrNone, 0))
		}
	}
}

// P14.1, Store at Pc 0: what the field has, and what the register has, are at hand; nothing is told.
func TestStoreLooks(t *testing.T) {
	for at, o := range objects() {
		for f, has := range o.fields {
			for a := range 4 {
				for c := range 4 {
					x := mixed().holds(22, 0, -3, 17).does(api.Op{Kind: api.Store, A: a, B: f, C: c}).at(0, 7, 9)
					x.t.R[a] = at
					check(t, fmt.Sprint("object at ", at), x, x.at(1, has, x.t.R[c]).quiet())
				}
			}
		}
	}
}

// P14.1, R2, Store at Pc 0: its errors, each where those that are told behind it hold, too.
func TestStoreErrors(t *testing.T) {
	for i, no := range wrongRegisters {
		for _, f := range []int{-1, 0, 2, 3, math.MinInt} {
			for _, c := range []int{-1, 3, 4} {
				x := mixed().does(api.Op{Kind: api.Store, A: no, B: f, C: c}).at(0, i, 7)
				check(t, "no register A", x, x.ends(api.ErrArg, 0))
			}
		}
		x := mixed().does(api.Op{Kind: api.Store, A: 0, B: i % 3, C: no}).at(0, i, 7)
		check(t, "no register C", x, x.ends(api.ErrArg, 0))
	}
	for i, a := range noObjects {
		for f := -1; f < 4; f++ {
			for _, c := range []int{-1, 2, 4} {
				x := mixed().holds(36, a, 18, 64).does(api.Op{Kind: api.Store, A: 1, B: f, C: c}).at(0, i, 7)
				check(t, fmt.Sprint("no object at ", a), x, x.ends(api.ErrNil, 0))
			}
		}
	}
	for at, o := range objects() {
		for _, f := range append([]int{-1, -2, len(o.fields), len(o.fields) + 1, 63, 64}, far...) {
			for _, c := range []int{-1, 2, 4} {
				x := mixed().holds(16, 18, 22, at).does(api.Op{Kind: api.Store, A: 3, B: f, C: c}).at(0, 5, 7)
				check(t, fmt.Sprint("no field ", f, " at ", at), x, x.ends(api.ErrNone, 0))
			}
		}
	}
}

// shadeable are what may be at hand of a store, and whether it is white in the cycle 5, and in one that is a major one.
var shadeable = []struct {
	a             int
	minor, always bool
}{
	{0, false, false}, {16, true, true}, {18, false, false}, {22, false, false}, {32, false, true}, {36, true, true}, {48, false, false}, {64, true, true}, {80, false, true},
	{37, false, false}, {65, false, false}, {24, false, false}, {112, false, false}, {-1, false, false}, {math.MaxInt, false, false}, {1<<32 + 16, false, false},
}

// grey is x with the object at a grey, in the cycle 5, and known of.
func (x state) grey(a int) state {
	w := x.h.W[a-16]%4294967296 + 5*4294967296
	if w&4 != 0 {
		w -= 4
	}
	x = x.word(a, w)
	if len(x.c.Work) < 4 {
		x.c.Work = append(slices.Clone(x.c.Work), a)
	} else {
		x.c.Over = true
	}
	return x
}

// P14.1, Store at Pc 1 and 2: what is at hand, X first, then Y, is shaded, if it is white, and the thread armed: of the collector's Epoch, in the phases from Arm to Trace, whatever its Stage; nothing is told, and what stands in the registers is not asked.
func TestStoreShades(t *testing.T) {
	for pc := 1; pc <= 2; pc++ {
		for _, s := range shadeable {
			for phase := -1; phase <= 7; phase++ {
				for way := range 16 {
					op := api.Op{Kind: api.Store, A: way%7 - 1, B: way%5 - 1, C: way%6 - 1}
					x := mixed().phase(phase).does(op).at(pc, s.a, 36)
					if pc == 2 {
						x = x.at(2, 36, s.a)
					}
					x.c.Major, x.t.Stage = way&1 != 0, way%4
					if way&2 != 0 {
						x.t.Epoch = 4
					}
					if way&4 != 0 {
						x.c.Work = []int{18, 1, 2, 3}
					}
					want := x
					if armed := way&2 == 0 && 1 <= phase && phase <= 5; armed && (s.minor || s.always && x.c.Major) {
						want = want.grey(s.a)
					}
					want.t.Pc++
					check(t, fmt.Sprint(s, ", Phase ", phase, ", ", way), x, want.quiet())
				}
			}
		}
	}
}

// P14.1, Store at Pc 3: the field has what is at hand as Y; 0 is told, and the operation is not done yet. No other word changes, and no card.
func TestStoreWrites(t *testing.T) {
	for at, o := range objects() {
		for f := range o.fields {
			for a := range 4 {
				for _, y := range []int{0, 16, 80, 37, -1, math.MinInt, math.MaxInt} {
					op := api.Op{Kind: api.Store, A: a, B: f, C: f - 9}
					x := mixed().does(op).at(3, 18, y)
					x.t.R[a] = at
					check(t, fmt.Sprint("object at ", at), x, x.word(at+1+f, y).at(4, 18, y).tells(op, api.OK, 0))
				}
			}
		}
	}
}

// P14.1, Store at Pc 4: the card on which the object begins is dirty, also where the field is on another one, or it was dirty; no other card turns. The operation is done, and nothing is told.
func TestStoreMarks(t *testing.T) {
	for at, o := range objects() {
		for f := range o.fields {
			for a := range 4 {
				x := mixed().does(api.Op{Kind: api.Store, A: a, B: f, C: f - 9}).at(4, 18, 22)
				x.t.R[a] = at
				check(t, fmt.Sprint("object at ", at), x, x.dirty((at-16)/8).done().quiet())
			}
		}
	}
}

// P14.1, Store at Pc 3 and 4: where the register has no object, or is none, or the field is none, the operation is done, without more; in 3 ErrNil is told, in 4 nothing.
func TestStoreLetGo(t *testing.T) {
	gone := func(x state) {
		check(t, "Pc 3", x.at(3, 18, 22), x.at(3, 18, 22).ends(api.ErrNil, 0))
		check(t, "Pc 4", x.at(4, 18, 22), x.at(4, 18, 22).done().quiet())
	}
	for i, a := range noObjects {
		gone(mixed().holds(36, a, 18, 64).does(api.Op{Kind: api.Store, A: 1, B: i % 3, C: 2}))
	}
	for i, no := range wrongRegisters {
		gone(mixed().does(api.Op{Kind: api.Store, A: no, B: i%4 - 1, C: 2}))
	}
	for at, o := range objects() {
		for _, f := range append([]int{-1, -2, len(o.fields), len(o.fields) + 1, 63, 64}, far...) {
			gone(mixed().holds(at, 36, 0, 80).does(api.Op{Kind: api.Store, A: 0, B: f, C: 2}))
		}
	}
}

// P14.1, Store: all steps in a row, by hand: of the field 1 of the object at 36, which has 64, and is to have 16; by a thread that is armed, or not, or in some steps alone.
func TestStoreInARow(t *testing.T) {
	op := api.Op{Kind: api.Store, A: 0, B: 1, C: 1}
	for _, phases := range [][5]int{
		{5, 5, 5, 5, 5}, {0, 0, 0, 0, 0}, {6, 6, 6, 6, 6}, {0, 1, 0, 0, 0}, {0, 0, 1, 0, 0}, {1, 0, 0, 1, 1}, {4, 5, 6, 6, 0}, {0, 1, 2, 2, 3},
	} {
		x := mixed().holds(36, 16, 0, 0).does(op).phase(phases[0])
		check(t, "Pc 0", x, x.at(1, 64, 16).quiet())
		x = step(x).state.phase(phases[1])
		want := x
		if 1 <= phases[1] && phases[1] <= 5 {
			want = want.grey(64)
		}
		check(t, "Pc 1", x, want.at(2, 64, 16).quiet())
		x = step(x).state.phase(phases[2])
		want = x
		if 1 <= phases[2] && phases[2] <= 5 {
			want = want.grey(16)
		}
		check(t, "Pc 2", x, want.at(3, 64, 16).quiet())
		x = step(x).state.phase(phases[3])
		check(t, "Pc 3", x, x.word(38, 16).at(4, 64, 16).tells(op, api.OK, 0))
		x = step(x).state.phase(phases[4])
		check(t, "Pc 4", x, x.dirty(2).done().quiet())
	}
}

// P14.1, Store: what is at hand stays there, whatever others do ahead of a step: the register, the field, and what is to be stored are others then; what is written to, and whose card is dirty, is what the register has at that step.
func TestStoreTurned(t *testing.T) {
	op := api.Op{Kind: api.Store, A: 0, B: 2, C: 1}
	for pc := 1; pc <= 4; pc++ {
		for other, has := range map[int]bool{80: true, 64: true, 36: true, 32: false, 0: false} { // that at 32 has no field 2
			x := mixed().holds(36, 16, 0, 0).does(op).phase(api.Idle)
			for range pc {
				x = step(x).state
			}
			x = x.holds(other, 22, 0, 0).word(39, 48)
			for at := pc; at < 3; at++ {
				check(t, "ahead of Pc 3", x, x.at(at+1, -1, 16).quiet())
				x = x.at(at+1, -1, 16)
			}
			if pc < 4 && !has {
				check(t, "Pc 3", x, x.ends(api.ErrNil, 0))
				continue
			}
			if pc < 4 {
				written := x.word(other+3, 16).at(4, -1, 16)
				check(t, "Pc 3", x, written.tells(op, api.OK, 0))
				x = written
			}
			want := x.done()
			if has {
				want = want.dirty((other - 16) / 8)
			}
			check(t, "Pc 4", x, want.quiet())
		}
	}
}

// P14.1, Drop, at every Pc alike: the register is 0, and 0 is told; ErrArg, if there is none.
func TestDrop(t *testing.T) {
	for pc := range 5 {
		for a := range 4 {
			for _, has := range []int{36, 0, -1, 65} {
				x := mixed().holds(has, has, has, has).does(api.Op{Kind: api.Drop, A: a, B: 9, C: -9}).at(pc, 16, 18)
				want := x.ends(api.OK, 0)
				want.t.R[a] = 0
				check(t, "a register", x, want)
			}
		}
		for _, a := range wrongRegisters {
			x := mixed().does(api.Op{Kind: api.Drop, A: a}).at(pc, 16, 18)
			check(t, "no register", x, x.ends(api.ErrArg, 0))
		}
	}
}

// P14.1, Same, at every Pc alike: 1 is told, if both registers have the same, whatever it is, also nothing; else 0; ErrArg, if one of them is none.
func TestSame(t *testing.T) {
	for pc := range 5 {
		for _, r := range [][4]int{{36, 0, 80, 65}, {36, 16, 36, 0}, {0, 0, 36, 0}, {-1, math.MaxInt, -1, math.MinInt}, {16, 1<<32 + 16, 17, 16}} {
			for a := range 4 {
				for b := range 4 {
					x := mixed().holds(r[0], r[1], r[2], r[3]).does(api.Op{Kind: api.Same, A: a, B: b, C: 99}).at(pc, 16, 18)
					val := 0
					if r[a] == r[b] {
						val = 1
					}
					check(t, fmt.Sprint(r), x, x.ends(api.OK, val))
				}
			}
		}
		for i, no := range wrongRegisters {
			for _, op := range []api.Op{{Kind: api.Same, A: no, B: i % 4}, {Kind: api.Same, A: i % 4, B: no}, {Kind: api.Same, A: no, B: no}} {
				x := mixed().does(op).at(pc, 16, 18)
				check(t, "no register", x, x.ends(api.ErrArg, 0))
			}
		}
	}
}

// P14.1, Size, at every Pc alike: how many fields an object has, of each class, and large ones; regs' Object's errors.
func TestSize(t *testing.T) {
	for pc := range 5 {
		for at, o := range objects() {
			for a := range 4 {
				x := mixed().does(api.Op{Kind: api.Size, A: a, B: -1, C: 99}).at(pc, 16, 18)
				x.t.R[a] = at
				check(t, fmt.Sprint("object at ", at), x, x.ends(api.OK, len(o.fields)))
			}
		}
		for _, a := range wrongRegisters {
			x := mixed().does(api.Op{Kind: api.Size, A: a}).at(pc, 16, 18)
			check(t, "no register", x, x.ends(api.ErrArg, 0))
		}
		for _, a := range noObjects {
			x := mixed().holds(36, 18, a, 64).does(api.Op{Kind: api.Size, A: 2}).at(pc, 16, 18)
			check(t, fmt.Sprint("no object at ", a), x, x.ends(api.ErrNil, 0))
		}
	}
}

// P14.1, Size: of an object of each number of fields there may be, that New makes.
func TestSizeOfNew(t *testing.T) {
	for n := 1; n <= 63; n++ {
		h, _ := heap.New(4)
		x := state{h: h, t: api.Thread{Live: true, Do: []api.Op{{Kind: api.New, A: 2, B: n}, {Kind: api.Size, A: 2}}}}
		x = step(step(x).state).state
		check(t, fmt.Sprint(n, " fields"), x, x.ends(api.OK, n))
	}
}

// P14.1, Exit, at every Pc alike: the cache is flushed, the thread is a zero one, without anything to do, and 0 is told; of a cache with cells, and of an empty one.
func TestExit(t *testing.T) {
	op := api.Op{Kind: api.Exit, A: -1, B: 99, C: 7}
	for pc := range 5 {
		x := mixed().does(op).at(pc, 16, 18)
		want := state{fresh.Heap(x.h), x.c, api.Thread{}}
		want.h.Free = api.Lists{{26, 24, 30, 28}, {40}, nil}
		check(t, "a cache with cells", x, want.tells(op, api.OK, 0))
		x.t.Cache = api.Lists{}
		want.h.Free = x.h.Free
		check(t, "an empty cache", x, want.tells(op, api.OK, 0))
		x.t = api.Thread{Live: true, Do: []api.Op{op}, Pc: pc}
		check(t, "nothing else of it", x, want.tells(op, api.OK, 0))
	}
}

// P14.1, Exit: pages all of whose cells are free then are given back, those that were on Free all, too; others not.
func TestExitGivesBack(t *testing.T) {
	op := api.Op{Kind: api.Exit}
	l := []api.Page{small(0), small(1), small(2), small(2), small(1)}
	h := api.Heap{W: make([]int, 80), Pages: l, Cards: make([]bool, 10), Free: api.Lists{{16, 18, 20, 22}, {80, 84, 32, 88, 92, 36}, {56, 48}}}
	h.W[24-16], h.W[64-16] = headWord(api.Head{Used: true, N: 1}), headWord(api.Head{Used: true, N: 7})
	x := state{h: h, t: api.Thread{Live: true, R: [4]int{24, 64, 0, 0}, Cache: api.Lists{{30, 28, 26}, {44, 40}, {72}}, Do: []api.Op{op, op}}}
	want := state{h: fresh.Heap(h)}
	want.h.Pages = []api.Page{small(0), {}, {}, small(2), {}}
	want.h.Free = api.Lists{{16, 18, 20, 22, 30, 28, 26}, nil, {72}}
	check(t, "five pages", x, want.tells(op, api.OK, 0))
	x.h.W[44-16], x.t.Cache[1] = headWord(api.Head{Used: true, N: 3}), []int{40}
	want.h.W[44-16], want.h.Pages[1], want.h.Free[1] = x.h.W[44-16], small(1), []int{32, 36, 40}
	check(t, "five pages, one more object", x, want.tells(op, api.OK, 0))
}

// P14.1: of an operation of any other kind ErrArg is told, at every Pc alike.
func TestOtherKinds(t *testing.T) {
	for pc := range 5 {
		for _, kind := range append([]int{-1, -2, api.Exit + 1, api.Ops + 1, 8, 9, 16, 99}, far...) {
			x := mixed().does(api.Op{Kind: kind, A: 1, B: 2, C: 3}).at(pc, 16, 18)
			check(t, "any other kind", x, x.ends(api.ErrArg, 0))
		}
	}
}

// reading is a second reading of the chapter, of a step that is taken.
type reading struct {
	state
	op api.Op
}

// say says again what the chapter says of a step.
func say(x state) answer {
	if !regs.May(x.t) || !x.t.Live || len(x.t.Do) < 1 || !heap.May(x.h, x.t.Cache) {
		return x.quiet()
	}
	y := reading{x.copied(), x.t.Do[0]}
	switch y.op.Kind {
	case 0:
		return y.sayNew()
	case 1:
		return y.sayLoad()
	case 2:
		return y.sayStore()
	case 3, 4, 5:
		return y.sayAsked()
	case 6:
		h, _ := reap.Flush(y.h, y.t.Cache)
		return state{h: h, c: y.c}.tells(y.op, api.OK, 0)
	}
	return y.ends(api.ErrArg, 0)
}

func register(r int) bool { return r == 0 || r == 1 || r == 2 || r == 3 }

// object is regs' Object.
func (y reading) object(r int) (int, int, api.Errno) {
	if !register(r) {
		return 0, 0, api.ErrArg
	}
	head, e := heap.Head(y.h, y.t.R[r])
	if e != api.OK {
		return 0, 0, api.ErrNil
	}
	return y.t.R[r], head.N, api.OK
}

func (y reading) sayNew() answer {
	is := register(y.op.A)
	if y.t.Pc > 0 {
		end := y.ends(api.OK, 0)
		if is {
			end.t.R[y.op.A] = y.t.X
		}
		return end
	}
	switch {
	case !is, y.op.B < 1:
		return y.ends(api.ErrArg, 0)
	case y.op.B > 63:
		return y.ends(api.ErrLong, 0)
	}
	head := api.Head{Used: true, N: y.op.B}
	if y.t.Epoch == y.c.Epoch && y.t.Stage == 3 && y.c.Phase != 0 {
		head.Born, head.Mark, head.Done = y.c.Epoch, y.c.Epoch, true
	}
	h, cache, at, e := alloc.Take(y.h, y.t.Cache, head)
	if e != api.OK {
		return y.ends(e, 0)
	}
	y.h, y.t.Cache, y.t.X, y.t.Pc = h, cache, at, 1
	return y.quiet()
}

func (y reading) sayLoad() answer {
	if !register(y.op.A) {
		return y.ends(api.ErrArg, 0)
	}
	at, n, e := y.object(y.op.B)
	if e != api.OK {
		return y.ends(e, 0)
	}
	for f := range n {
		if f != y.op.C {
			continue
		}
		has := y.h.W[at-16+1+f]
		val := 0
		if has != 0 {
			val = 1
		}
		end := y.ends(api.OK, val)
		end.t.R[y.op.A] = has
		return end
	}
	return y.ends(api.ErrNone, 0)
}

func (y reading) sayStore() answer {
	at, n, e := y.object(y.op.A)
	none := y.op.B < 0 || y.op.B > n-1
	armed := y.t.Epoch == y.c.Epoch && y.c.Phase > 0 && y.c.Phase < 6
	switch {
	case y.t.Pc == 0 && e != api.OK:
		return y.ends(e, 0)
	case y.t.Pc == 0 && none:
		return y.ends(api.ErrNone, 0)
	case y.t.Pc == 0 && !register(y.op.C):
		return y.ends(api.ErrArg, 0)
	case y.t.Pc == 0:
		return y.at(1, y.h.W[at-16+1+y.op.B], y.t.R[y.op.C]).quiet()
	case y.t.Pc == 1 && armed:
		y.h, y.c = shade.Shade(y.h, y.c, y.t.X)
	case y.t.Pc == 2 && armed:
		y.h, y.c = shade.Shade(y.h, y.c, y.t.Y)
	case y.t.Pc == 3 && (e != api.OK || none):
		return y.ends(api.ErrNil, 0)
	case y.t.Pc == 3:
		return y.word(at+1+y.op.B, y.t.Y).at(4, y.t.X, y.t.Y).tells(y.op, api.OK, 0)
	case y.t.Pc == 4 && (e != api.OK || none):
		return y.done().quiet()
	case y.t.Pc == 4:
		y.h, _ = cards.Dirty(y.h, at)
		return y.done().quiet()
	}
	return y.at(y.t.Pc+1, y.t.X, y.t.Y).quiet()
}

// sayAsked says again what the chapter says of Drop, Same and Size.
func (y reading) sayAsked() answer {
	_, n, e := y.object(y.op.A)
	switch {
	case !register(y.op.A), y.op.Kind == 4 && !register(y.op.B):
		return y.ends(api.ErrArg, 0)
	case y.op.Kind == 3:
		end := y.ends(api.OK, 0)
		end.t.R[y.op.A] = 0
		return end
	case y.op.Kind == 4 && y.t.R[y.op.A] == y.t.R[y.op.B]:
		return y.ends(api.OK, 1)
	case y.op.Kind == 4:
		return y.ends(api.OK, 0)
	case e != api.OK:
		return y.ends(e, 0)
	}
	return y.ends(api.OK, n)
}

// chance hands out numbers below n, one behind the other, the same ones each time.
func chance() func(n int) int {
	seed := uint64(1)
	return func(n int) int {
		seed = seed*6364136223846793005 + 1442695040888963407
		return int((seed >> 33) % uint64(n))
	}
}

// P14.1: a great many steps of all kinds, of all of the heaps at hand, held against a second reading of the chapter.
func TestSay(t *testing.T) {
	next := chance()
	pick := func(l ...int) int { return l[next(len(l))] }
	heaps := []state{mixed(), mixed(), mixed(), full(), one(0, true), one(1, false), one(2, true)}
	for range 40000 {
		x := heaps[next(len(heaps))]
		x.c = api.Col{Phase: next(9) - 1, Epoch: pick(0, 4, 5, 5, 5, 6, 1<<20, -1, 1<<20+1), Major: next(2) == 0, Work: []int{18, 16, 22, 64, 80}[:next(6)], Over: next(5) == 0, At: next(3), Met: next(2) == 0}
		x.t.Epoch, x.t.Stage, x.t.Root = pick(x.c.Epoch, x.c.Epoch, x.c.Epoch-1, 0), next(4), next(4)
		for r := range 4 {
			x.t.R[r] = pick(0, 16, 18, 22, 32, 36, 48, 64, 80, 37, 40, 65, -1, 1<<32+36)
		}
		x = x.does(api.Op{Kind: next(9) - 1, A: next(6) - 1, B: next(6) - 1, C: next(6) - 1}).at(next(5), pick(0, 16, 32, 36, 37, 64, 80), pick(0, 16, 18, 32, 48, 64, 80, -1))
		if op := &x.t.Do[0]; op.Kind == api.New {
			op.B = pick(-1, 0, 1, 1, 2, 3, 4, 5, 7, 8, 15, 16, 31, 32, 47, 48, 63, 64)
		}
		x.t.Live = next(30) != 0
		check(t, "a second reading", x, say(x))
	}
}

// changes are the addresses of the words that are others in another heap.
func changes(h, g api.Heap) []int {
	var l []int
	for i, w := range h.W {
		if g.W[i] != w {
			l = append(l, 16+i)
		}
	}
	return l
}

// checkChanges tells whether what a step changed of the words is what the chapter says: those of one cell, in New, else one word at most.
func checkChanges(t *testing.T, x state, got answer) {
	t.Helper()
	l := changes(x.h, got.h)
	if x.t.Do[0].Kind == api.New && x.t.Pc == 0 && got.t.Pc == 1 {
		room := cells.Room(got.h.Pages, got.t.X)
		if room == 0 || len(l) > 0 && (l[0] < got.t.X || l[len(l)-1] >= got.t.X+room) {
			t.Fatalf("%v: a cell at %d, with %d words; changed are %v", x.t.Do[0], got.t.X, room, l)
		}
		return
	}
	if len(l) > 1 || len(l) == 1 && x.t.Do[0].Kind != api.Store {
		t.Fatalf("%v, Pc %d: changed are %v", x.t.Do[0], x.t.Pc, l)
	}
}

// P14.2: each step changes the words of one cell at most, and leaves whole what was whole, of a heap whose words are all something.
func TestOneCell(t *testing.T) {
	next := chance()
	for range 8000 {
		x := mixed().phase(next(7)).at(next(5), []int{0, 16, 36, 64, 80}[next(5)], []int{0, 18, 36, 64, 80}[next(5)])
		x.c.Major, x.t.Epoch = next(2) == 0, 4+next(2)
		x = x.holds(36, 80, 0, []int{16, 22, 32, 48, 64}[next(5)]).does(api.Op{Kind: next(api.Ops), A: next(4), B: next(4), C: next(4)})
		if x.t.Do[0].Kind == api.New {
			x.t.Do[0].B = []int{1, 2, 3, 16, 31, 40}[next(6)]
		}
		got := step(x)
		checkChanges(t, x, got)
		if !heap.Whole(got.h, append(others(), got.t.Cache)...) {
			t.Fatalf("%v: the heap is not whole: %v", x.t.Do[0], got)
		}
	}
}

// program are so many operations, most of which can be done.
func program(next func(int) int, n int) []api.Op {
	var l []api.Op
	for range n {
		op := api.Op{Kind: []int{0, 0, 0, 1, 1, 2, 2, 2, 3, 4, 5}[next(11)], A: next(4), B: next(4), C: next(4)}
		if op.Kind == api.New {
			op.B = []int{1, 1, 2, 3, 3, 5, 7, 9, 20, 40}[next(10)]
		}
		l = append(l, op)
	}
	return append(l, api.Op{Kind: api.Exit}, api.Op{Kind: api.Drop})
}

// world is a heap, with threads that step in whatever order, and, of each, how many steps its operation took, and how often it was told of.
type world struct {
	h           api.Heap
	c           api.Col
	l           []api.Thread
	steps, told []int
}

// caches are those of all threads.
func (w *world) caches() []api.Lists {
	var l []api.Lists
	for _, x := range w.l {
		l = append(l, x.Cache)
	}
	return l
}

// step takes one of the thread i, and tells whether all is as the chapter says behind it.
func (w *world) step(t *testing.T, i int) {
	t.Helper()
	x := state{w.h, w.c, w.l[i]}
	got := step(x)
	if !got.same(say(x)) {
		t.Fatalf("%v, Pc %d:\n got %v\nwant %v", x.t.Do, x.t.Pc, got, say(x))
	}
	w.h, w.c, w.l[i] = got.h, got.c, got.t
	if !x.t.Live {
		return
	}
	checkChanges(t, x, got)
	if !heap.Whole(w.h, w.caches()...) || !regs.May(got.t) {
		t.Fatalf("behind %v, Pc %d: not whole: %v", x.t.Do[0], x.t.Pc, got)
	}
	w.steps[i]++
	if got.told {
		w.told[i]++
		if got.r.Op != x.t.Do[0] || got.r.Thread != 0 || got.r.E != api.OK && got.r.Val != 0 {
			t.Fatalf("%v: told is %v", x.t.Do[0], got.r)
		}
	}
	if len(got.t.Do) != len(x.t.Do) {
		if w.told[i] != 1 || w.steps[i] > 5 {
			t.Fatalf("%v: done behind %d steps, told of %d times", x.t.Do[0], w.steps[i], w.told[i])
		}
		w.steps[i], w.told[i] = 0, 0
	} else if w.told[i] > 1 || w.steps[i] > 4 {
		t.Fatalf("%v: behind %d steps not done, told of %d times", x.t.Do[0], w.steps[i], w.told[i])
	}
}

// P14.2, P14.1: three threads, picked in whatever order, each with a program, on one heap, small and great, while phases and cycles go on, and objects are freed: behind each step what was whole is whole, with all threads' caches; each operation is told of just once, and is done behind five steps at most. When all have ended no small page is left but those with objects.
func TestThreads(t *testing.T) {
	next := chance()
	for _, pages := range []int{1, 2, 3, 5, 8, 13, 21, 40} {
		h, _ := heap.New(pages)
		w := world{h: h, c: api.Col{Epoch: 1}, steps: make([]int, 3), told: make([]int, 3)}
		for range 3 {
			w.l = append(w.l, api.Thread{Live: true, Do: program(next, 100)})
		}
		for n := range 3000 {
			if n%7 == 0 {
				w.c.Phase = (w.c.Phase + 1) % api.Phases
				w.c.Epoch += n % 14 / 13
				w.c.Work = w.c.Work[:len(w.c.Work)/2]
				i := next(3)
				if w.l[i].Live {
					w.l[i].Epoch, w.l[i].Stage = w.c.Epoch, next(4)
				}
			}
			if used := heap.Used(w.h); n%9 == 0 && len(used) > 0 { // whatever registers have it
				w.h, _ = reap.Free(w.h, used[next(len(used))])
			}
			w.step(t, next(3))
		}
		for i := range w.l {
			for w.l[i].Live {
				w.step(t, i)
			}
			if !(state{t: w.l[i]}).same(state{}) {
				t.Fatalf("%d pages: the thread %d is %v", pages, i, w.l[i])
			}
		}
		if tidy, e := reap.Tidy(w.h); e != api.OK || !(state{h: tidy}).same(state{h: w.h}) {
			t.Fatalf("%d pages: a page could still be given back", pages)
		}
	}
}

// asked are states of all kinds: those of which each kind of step is taken, and those of which none is.
func asked() []state {
	var l []state
	for pc := range 5 {
		for kind := -1; kind <= api.Ops; kind++ {
			for _, a := range []int{0, 2, 4} {
				for _, b := range []int{1, 3, 20} {
					l = append(l, mixed().does(api.Op{Kind: kind, A: a, B: b, C: 1}).holds(36, 16, 64, 48).at(pc, 16, 80))
				}
			}
		}
	}
	for i, x := range l[:40] {
		x.c.Work, x.c.Major = []int{18, 22, 22, 22}[:i%5], true
		l = append(l, x)
		x.t.Cache = api.Lists{}
		l = append(l, x)
		x.t.Live = false
		l = append(l, x)
	}
	for _, h := range wrongHeaps() {
		x := l[len(l)/2]
		x.h = h
		l = append(l, x)
	}
	return append(l, state{}, full().does(api.Op{Kind: api.New, B: 1}))
}

// numbers are all lists of numbers of x.
func numbers(x *state) []*[]int {
	return []*[]int{&x.h.W, &x.h.Free[0], &x.h.Free[1], &x.h.Free[2], &x.c.Work, &x.t.Cache[0], &x.t.Cache[1], &x.t.Cache[2]}
}

// listsOf is how many lists a state has.
const listsOf = 11

// onto writes over one list of x, and over the room behind its end.
func onto(x state, i int) {
	switch l := numbers(&x); {
	case i < len(l):
		turn(*l[i], func(n int) int { return 3*n - 77 })
	case i == len(l):
		turn(x.h.Pages, func(p api.Page) api.Page { return api.Page{Kind: p.Kind + 7, Arg: p.Arg + 7} })
	case i == len(l)+1:
		turn(x.h.Cards, func(is bool) bool { return !is })
	default:
		turn(x.t.Do, func(op api.Op) api.Op { return api.Op{Kind: op.Kind + 1, A: op.A - 7, B: op.B + 7, C: 77} })
	}
}

func turn[T any](l []T, other func(T) T) {
	for i, v := range l[:cap(l)] {
		l[:cap(l)][i] = other(v)
	}
}

// spoil writes over all lists of x.
func spoil(x state) {
	for i := range listsOf {
		onto(x, i)
	}
}

// whole is x with all of its lists as long as there is room for.
func whole(x state) state {
	for _, l := range numbers(&x) {
		*l = (*l)[:cap(*l)]
	}
	x.h.Pages, x.h.Cards, x.t.Do = x.h.Pages[:cap(x.h.Pages)], x.h.Cards[:cap(x.h.Cards)], x.t.Do[:cap(x.t.Do)]
	return x
}

// roomy is x with memory of its own, with room behind each list's end, in which something stands; and a function that tells whether all of it, with that room, is as it was.
func roomy(x state) (state, func() bool) {
	x = x.copied()
	for _, l := range numbers(&x) {
		*l = append(*l, 24, 40, 112)[:len(*l)]
	}
	x.h.Pages = append(x.h.Pages, small(1), small(2))[:len(x.h.Pages)]
	x.h.Cards = append(x.h.Cards, true, false)[:len(x.h.Cards)]
	x.t.Do = append(x.t.Do, api.Op{Kind: api.Exit}, api.Op{Kind: api.Store})[:len(x.t.Do)]
	was := whole(x).copied()
	return x, func() bool { return whole(x).same(was) }
}

// R3: what is handed in stays as it was, also behind its lists' ends, and what stands there changes no answer.
func TestHandedIn(t *testing.T) {
	for i, x := range asked() {
		own, kept := roomy(x)
		if got, want := step(own), step(x); !got.same(want) {
			t.Fatalf("%d: with room behind its lists: %v; want %v", i, got, want)
		}
		if !kept() {
			t.Fatalf("%d: %v: what was handed in is another one", i, x.t.Do)
		}
	}
}

// R3: what is answered is the caller's own, also where no step is taken: written over, with the room behind its lists' ends, it changes nothing of what was handed in, nor of another answer; nor the other way round.
func TestAnsweredOwn(t *testing.T) {
	for i, x := range asked() {
		own, kept := roomy(x)
		first, second := step(own), step(own)
		want := answer{second.copied(), second.r, second.told}
		spoil(first.state)
		if !kept() || !second.same(want) {
			t.Fatalf("%d: %v: what was answered is shared", i, x.t.Do)
		}
		spoil(own)
		if !second.same(want) {
			t.Fatalf("%d: %v: what was handed in is shared", i, x.t.Do)
		}
	}
}

// R3: no two lists of one answer share memory, also where those that were handed in do: each of them written over, with the room behind its end, changes none but itself.
func TestAnswersApart(t *testing.T) {
	for i, x := range asked() {
		on := []int{30, 28, 26, 24, 40, 18, 22}
		x.t.Cache = api.Lists{on[:2], on[4:5], nil} // one behind the other, with those of Free and Work
		x.h.Free, x.c.Work = api.Lists{on[2:4], nil, nil}, on[5:6]
		want := step(x)
		for n := range listsOf {
			got, sole := step(x), answer{want.copied(), want.r, want.told}
			onto(got.state, n)
			onto(sole.state, n)
			if !got.same(sole) {
				t.Fatalf("%d: %v: with the list %d another one changed: %v", i, x.t.Do, n, got)
			}
		}
		if !slices.Equal(on, []int{30, 28, 26, 24, 40, 18, 22}) {
			t.Fatalf("%d: what was handed in is %v", i, on)
		}
	}
}

// R5: what is asked again is answered alike, whatever was asked between.
func TestAskedAgain(t *testing.T) {
	all := asked()
	var want []answer
	for _, x := range all {
		want = append(want, step(x))
	}
	for range 2 {
		for i, x := range slices.Backward(all) {
			check(t, "asked again", x, want[i])
		}
	}
}

// R1: no call panics, or goes on for ever, whatever it is handed: threads, collectors and heaps of which nothing belongs together.
func TestWhatever(t *testing.T) {
	next := chance()
	some := append([]int{-2, -1, 0, 1, 2, 3, 4, 5, 7, 16, 36, 63, 64, 80}, far...)
	what := func() int { return some[next(len(some))] }
	heaps := []api.Heap{mixed().h, full().h, one(1, true).h}
	for _, h := range wrongHeaps() {
		heaps = append(heaps, h)
	}
	for n := range 20000 {
		x := state{heaps[next(len(heaps))], api.Col{Phase: what(), Epoch: what(), Major: n%2 == 0, Work: []int{what(), what(), what(), what(), what()}[:next(6)], Over: n%3 == 0, At: what(), Field: what(), Seek: what(), Card: what()}, api.Thread{}}
		x = x.does(api.Op{Kind: what(), A: what(), B: what(), C: what()}).holds(what(), what(), what(), what()).at(next(5), what(), what())
		x.t.Live, x.t.Epoch = true, what()
		if n%4 == 0 {
			x.t.Pc, x.t.Stage, x.t.Root = what(), what(), what()
			x.t.Cache[next(3)] = []int{what()}
		}
		if n%4 == 1 {
			x.t.Epoch, x.t.Stage = x.c.Epoch, 3
		}
		check(t, "whatever it is", x, say(x))
	}
	check(t, "nothing at all", state{}, answer{})
}

// The chapter's example.
func TestExample(t *testing.T) {
	h, _ := heap.New(1)
	_, _, x, r, told := mutate.Step(h, api.Col{}, api.Thread{Live: true, R: [4]int{1, 2, 3, 4}, Do: []api.Op{{Kind: api.Drop, A: 1}}})
	if x.R != [4]int{1, 0, 3, 4} || len(x.Do) != 0 || r != (api.Result{Op: api.Op{Kind: api.Drop, A: 1}}) || !told {
		t.Errorf("%v, %v, %t", x, r, told)
	}
}

// P14.1: New, Load and Store of a new heap, with what chapter 8 has as its example: the cell 20, and 16 in the cache.
func TestNewHeap(t *testing.T) {
	h, _ := heap.New(1)
	x := state{h: h, t: api.Thread{Live: true, Do: []api.Op{{Kind: api.New, A: 3, B: 3}, {Kind: api.Store, A: 3, B: 2, C: 3}, {Kind: api.Load, A: 0, B: 3, C: 2}, {Kind: api.Load, A: 1, B: 3, C: 1}}}}
	for i, want := range []struct {
		told bool
		val  int
		r    [4]int
		pc   int
	}{
		{false, 0, [4]int{}, 1}, {true, 0, [4]int{0, 0, 0, 20}, 0},
		{false, 0, [4]int{0, 0, 0, 20}, 1}, {false, 0, [4]int{0, 0, 0, 20}, 2}, {false, 0, [4]int{0, 0, 0, 20}, 3}, {true, 0, [4]int{0, 0, 0, 20}, 4}, {false, 0, [4]int{0, 0, 0, 20}, 0},
		{true, 1, [4]int{20, 0, 0, 20}, 0}, {true, 0, [4]int{20, 0, 0, 20}, 0}, {false, 0, [4]int{20, 0, 0, 20}, 0},
	} {
		got := step(x)
		if got.told != want.told || got.r.E != api.OK || got.r.Val != want.val || got.t.R != want.r || got.t.Pc != want.pc || !sameLists(got.t.Cache, api.Lists{nil, {16}, nil}) {
			t.Fatalf("step %d: %v", i, got)
		}
		x = got.state
	}
	if w := x.h.W[4:8]; !slices.Equal(w, []int{headWord(api.Head{Used: true, N: 3}), 0, 0, 20}) || !slices.Equal(x.h.Cards, []bool{true, false}) {
		t.Errorf("the object is %v, the cards %v", w, x.h.Cards)
	}
}
