package regs_test

import (
	"fmt"
	"math"
	"reflect"
	"slices"
	"testing"

	"ragpicker/alloc"
	"ragpicker/api"
	"ragpicker/heap"
	"ragpicker/reap"
	"ragpicker/regs"
)

// far are numbers so far off that they would be right, if fewer bits of them were looked at, or a sum of them wraps.
var far = []int{
	math.MinInt, math.MinInt + 1, math.MinInt + 3, math.MinInt + 16, math.MinInt32, -1 << 32, -1<<32 + 2, -1<<32 + 16, -1<<16 + 1, -256, -255, -254, -16, -4,
	1 << 8, 1<<8 + 1, 1<<8 + 3, 1 << 16, 1<<16 + 2, 1<<16 + 16, 1 << 32, 1<<32 + 3, 1<<32 + 16, 1 << 62, math.MaxInt - 16, math.MaxInt - 3, math.MaxInt,
}

// wrongRegisters are numbers of registers that there are not.
var wrongRegisters = append([]int{-1, -2, 4, 5, 16, 200}, far...)

// eachList hands on each list that a value has, wherever it stands in it.
func eachList(v reflect.Value, do func(reflect.Value)) {
	switch v.Kind() {
	case reflect.Struct:
		for i := range v.NumField() {
			eachList(v.Field(i), do)
		}
	case reflect.Array:
		for i := range v.Len() {
			eachList(v.Index(i), do)
		}
	case reflect.Slice:
		do(v)
	}
}

// ruin writes over a number, a bool, or what is made of these. A number is another one then, also behind a second time.
func ruin(v reflect.Value) {
	switch v.Kind() {
	case reflect.Int:
		v.SetInt(3*v.Int() - 77)
	case reflect.Bool:
		v.SetBool(!v.Bool())
	case reflect.Struct:
		for i := range v.NumField() {
			ruin(v.Field(i))
		}
	}
}

// ruinFrom writes over a list, from a place on, and over the room behind its end.
func ruinFrom(l reflect.Value, at int) {
	l = l.Slice(0, l.Cap())
	for i := at; i < l.Len(); i++ {
		ruin(l.Index(i))
	}
}

// lists are all lists of what p points to.
func lists[T any](p *T) []reflect.Value {
	var all []reflect.Value
	eachList(reflect.ValueOf(p).Elem(), func(l reflect.Value) { all = append(all, l) })
	return all
}

// clone is x with memory of its own, and room for so many more behind each list's end, which look like something.
func clone[T any](x T, more int) T {
	for _, l := range lists(&x) {
		if l.IsNil() && more == 0 {
			continue
		}
		own := reflect.MakeSlice(l.Type(), l.Len()+more, l.Len()+more)
		reflect.Copy(own, l)
		ruinFrom(own, l.Len())
		l.Set(own.Slice(0, l.Len()))
	}
	return x
}

// whole is x with all of its lists as long as there is room for.
func whole[T any](x T) T {
	for _, l := range lists(&x) {
		l.Set(l.Slice(0, l.Cap()))
	}
	return x
}

// roomy is x with memory of its own, and room behind each list's end; and a function that tells whether all of it, with that room, is as it was.
func roomy[T any](x T) (T, func() bool) {
	own := clone(x, 3)
	was := clone(whole(own), 0)
	return own, func() bool { return same(whole(own), was) }
}

// spoil writes over all lists of x, and over the room behind their ends.
func spoil[T any](x T) {
	for _, l := range lists(&x) {
		ruinFrom(l, 0)
	}
}

// same tells whether two values are the same, but that lists without elements may be nil or empty (R6).
func same[T any](x, y T) bool {
	for _, p := range []*T{&x, &y} {
		for _, l := range lists(p) {
			if l.Len() == 0 {
				l.SetZero()
			}
		}
	}
	return reflect.DeepEqual(x, y)
}

// ops are so many operations.
func ops(n int) []api.Op {
	var l []api.Op
	for i := range n {
		l = append(l, api.Op{Kind: i % api.Ops, A: i % 4, B: i, C: -i})
	}
	return l
}

// threads are threads of all kinds: such as may be, and such as may not.
func threads() []api.Thread {
	return []api.Thread{
		{},
		{Live: true},
		{Live: true, R: [4]int{16, 18, 20, 22}, Do: ops(1)},
		{Live: true, R: [4]int{16, 0, 16, 40}, Cache: api.Lists{{18, 20}, {36}, {56, 48}}, Epoch: 3, Stage: 2, Root: 1, Do: ops(5), Pc: 4, X: 40, Y: 16},
		{R: [4]int{-1, 17, 1 << 40, 15}, Cache: api.Lists{nil, {}, {16, 16}}, Epoch: 1 << 20, Stage: 3, Root: 3, Do: ops(200), X: -7},
		{Live: true, R: [4]int{math.MinInt, math.MaxInt, 0, 1}, Cache: api.Lists{{-1, 0, 3}}, Epoch: -4, Stage: -1, Root: 4, Do: ops(201), Pc: 5, Y: 96},
		{R: [4]int{0, 0, 0, 24}, Stage: 9, Root: -3, Do: []api.Op{}, Pc: -1, X: 5, Y: math.MinInt},
		{Live: true, R: [4]int{208, 96, 48, 176}, Epoch: math.MaxInt, Pc: math.MaxInt, Stage: math.MinInt, Root: math.MaxInt, Do: []api.Op{{Kind: 99, A: -1, B: math.MaxInt}}},
	}
}

// sayMay says again what the chapter says of threads that may be.
func sayMay(t api.Thread) bool {
	good := slices.Contains([]int{0, 1, 2, 3}, t.Stage) && slices.Contains([]int{0, 1, 2, 3}, t.Root) && slices.Contains([]int{0, 1, 2, 3, 4}, t.Pc)
	n := len(t.Do)
	if n == 0 {
		return good && t.Pc == 0
	}
	return good && n < 201
}

// P12.1: May of a thread with every Stage, Root and Pc within the limits, at them, and outside, with none to too many operations, all else as it likes.
func TestMay(t *testing.T) {
	some := append([]int{-1, 0, 1, 2, 3, 4, 5, 7}, far...)
	many := [][]api.Op{nil, {}, ops(1), ops(2), ops(199), ops(200), ops(201), ops(202), ops(456)}
	for i, x := range threads() {
		for _, x.Stage = range some {
			for _, x.Root = range some {
				for _, x.Pc = range some {
					for _, x.Do = range many {
						if got, want := regs.May(x), sayMay(x); got != want {
							t.Fatalf("thread %d, Stage %d, Root %d, Pc %d, %d operations: %t; want %t", i, x.Stage, x.Root, x.Pc, len(x.Do), got, want)
						}
					}
				}
			}
		}
	}
}

// P12.1: May at each edge that the chapter names, by hand.
func TestMayEdges(t *testing.T) {
	for name, c := range map[string]struct {
		x    api.Thread
		want bool
	}{
		"zero":                       {api.Thread{}, true},
		"Stage -1":                   {api.Thread{Stage: -1}, false},
		"Stage 3":                    {api.Thread{Stage: 3}, true},
		"Stage 4":                    {api.Thread{Stage: 4}, false},
		"Root -1":                    {api.Thread{Root: -1}, false},
		"Root 3":                     {api.Thread{Root: 3}, true},
		"Root 4":                     {api.Thread{Root: 4}, false},
		"Pc -1":                      {api.Thread{Pc: -1, Do: ops(1)}, false},
		"Pc 0, one to do":            {api.Thread{Do: ops(1)}, true},
		"Pc 1, one to do":            {api.Thread{Pc: 1, Do: ops(1)}, true},
		"Pc 4, one to do":            {api.Thread{Pc: 4, Do: ops(1)}, true},
		"Pc 5, one to do":            {api.Thread{Pc: 5, Do: ops(1)}, false},
		"Pc 1, nothing to do":        {api.Thread{Pc: 1}, false},
		"Pc 4, nothing to do":        {api.Thread{Pc: 4, Do: []api.Op{}}, false},
		"200 to do":                  {api.Thread{Do: ops(200)}, true},
		"Pc 4, 200 to do":            {api.Thread{Pc: 4, Do: ops(200)}, true},
		"201 to do":                  {api.Thread{Do: ops(201)}, false},
		"all else as it likes":       {api.Thread{R: [4]int{-1, 1, 17, math.MaxInt}, Cache: api.Lists{{16, 16}, {-1}}, Epoch: -1, Do: []api.Op{{Kind: -1}}, X: -1, Y: math.MinInt}, true},
		"lives, and all at its most": {api.Thread{Live: true, Epoch: math.MaxInt, Stage: 3, Root: 3, Pc: 4, Do: ops(200)}, true},
	} {
		if got := regs.May(c.x); got != c.want {
			t.Errorf("%s: %t", name, got)
		}
	}
}

// P12.1: Get of each register, and of none, also of a thread that may not be.
func TestGet(t *testing.T) {
	for i, x := range threads() {
		for r, want := range x.R {
			if a, e := regs.Get(x, r); a != want || e != api.OK {
				t.Errorf("thread %d, register %d: %d, %d; want %d", i, r, a, e, want)
			}
		}
		for _, r := range wrongRegisters {
			if a, e := regs.Get(x, r); a != 0 || e != api.ErrArg {
				t.Errorf("thread %d, register %d: %d, %d", i, r, a, e)
			}
		}
	}
}

// P12.1: Put in each register of what was there, of another address, of 0, and of what is no address: that one has it, and all else is as it was.
func TestPut(t *testing.T) {
	for i, x := range threads() {
		for r, was := range x.R {
			for _, a := range append([]int{was, was + 1, x.R[(r+1)%4], x.X, 0, 16, 40, 1039, 1040, 15, 1, -1}, far...) {
				want := clone(x, 0)
				want.R[r] = a
				if got, e := regs.Put(x, r, a); e != api.OK || !same(got, want) {
					t.Errorf("thread %d, %d in register %d: %v, %d; want %v", i, a, r, got, e, want)
				}
			}
		}
		for _, r := range wrongRegisters {
			for _, a := range []int{0, 16, -1, math.MaxInt} {
				if got, e := regs.Put(x, r, a); e != api.ErrArg || !same(got, api.Thread{}) {
					t.Errorf("thread %d, %d in register %d: %v, %d", i, a, r, got, e)
				}
			}
		}
	}
}

// P12.4: what was put is got, other registers stay, and what is held besides; many puts, one behind the other.
func TestPutIsGot(t *testing.T) {
	for i, x := range threads() {
		want := x.R
		for n := range 300 {
			r, a := n*n/3%4, []int{16 + 2*n, 0, want[n%4], -n, n << 40}[n%5]
			want[r] = a
			next, e := regs.Put(x, r, a)
			if e != api.OK {
				t.Fatalf("thread %d: %d in register %d: %d", i, a, r, e)
			}
			for s := range 4 {
				if got, e := regs.Get(next, s); got != want[s] || e != api.OK {
					t.Fatalf("thread %d: behind %d in register %d: in %d is %d, %d; want %d", i, a, r, s, got, e, want[s])
				}
			}
			held := slices.DeleteFunc([]int{want[0], want[1], want[2], want[3], x.X, x.Y}, func(a int) bool { return a == 0 })
			if l := regs.Holds(next); !slices.Equal(l, held) {
				t.Fatalf("thread %d: behind %d in register %d: holds %v; want %v", i, a, r, l, held)
			}
			x = next
		}
	}
}

// P12.1: Holds of registers, X and Y, each with something, or nothing, in all ways: in their order, without noughts, also the same address again, and what is no address.
func TestHolds(t *testing.T) {
	for _, all := range [][6]int{{16, 18, 20, 22, 24, 26}, {96, 48, 80, 16, 32, 20}, {16, 16, 16, 16, 16, 16}, {40, 16, 40, 16, 16, 40}, {-1, math.MinInt, math.MaxInt, 1, 15, 1 << 32}} {
		for some := range 64 {
			var has [6]int
			var want []int
			for i, a := range all {
				if some>>i&1 != 0 {
					has[i] = a
					want = append(want, a)
				}
			}
			for i, x := range threads() { // what else a thread has is not asked
				x.R, x.X, x.Y = [4]int(has[:4]), has[4], has[5]
				if l := regs.Holds(x); !slices.Equal(l, want) {
					t.Fatalf("thread %d with %v: %v; want %v", i, has, l, want)
				}
			}
		}
	}
}

// P12.1: Holds by hand: nothing at all; X, or Y, alone; all.
func TestHoldsByHand(t *testing.T) {
	for _, c := range []struct {
		x    api.Thread
		want []int
	}{
		{api.Thread{}, nil},
		{api.Thread{Live: true, Cache: api.Lists{{16}, {32}}, Epoch: 3, Stage: 2, Root: 1, Do: ops(3), Pc: 2}, nil},
		{api.Thread{R: [4]int{0, 0, 16, 0}}, []int{16}},
		{api.Thread{X: 20}, []int{20}},
		{api.Thread{Y: 24}, []int{24}},
		{api.Thread{Y: 20, X: 24}, []int{24, 20}},
		{api.Thread{R: [4]int{18, 0, 0, 16}, Y: 18}, []int{18, 16, 18}},
		{api.Thread{R: [4]int{40, 30, 20, 20}, X: 30, Y: 16}, []int{40, 30, 20, 20, 30, 16}},
	} {
		if l := regs.Holds(c.x); !slices.Equal(l, c.want) {
			t.Errorf("%v: %v; want %v", c.x, l, c.want)
		}
	}
}

// known is a heap, and how many fields its objects have, by where they begin.
type known struct {
	name   string
	h      api.Heap
	fields map[int]int
}

// laid is a heap of pages, with objects, and other cells, by where they begin. All words but the first ones of cells look like a head of an object, or like an address.
func laid(name string, l []api.Page, fields map[int]int, empty []int, free api.Lists) known {
	h := api.Heap{Pages: l, Free: free, Cards: make([]bool, 2*len(l))}
	for i := range 16 * len(l) {
		h.W = append(h.W, []int{1 + 8, 16, 1 + 8*3, 1 + 8*7 + 1<<33, 1 + 2 + 8*40}[i%5])
	}
	for _, a := range empty {
		h.W[a-16] = 0
	}
	for a, n := range fields { // in all ways in which a head may be another one
		h.W[a-16] = 1 + a/2%2*2 + a/4%2*4 + 8*n + a*1024 + a%5<<32
	}
	return known{name, h, fields}
}

func small(class int) api.Page { return api.Page{Kind: api.PageSmall, Arg: class} }

// run are all pages of a large object of n pages.
func run(n int) []api.Page {
	return append([]api.Page{{Kind: api.PageLarge, Arg: n}}, slices.Repeat([]api.Page{{Kind: api.PageRest}}, n-1)...)
}

// mixed is a heap of all kinds of pages, side by side, with objects of each class, large ones of each run, and cells that are told of as free, or are told of nowhere.
func mixed() known {
	l := slices.Concat([]api.Page{small(0), small(1)}, run(1), []api.Page{{}, small(2)}, run(3), []api.Page{{}, small(2)}, run(2), run(4), []api.Page{small(1), {}})
	fields := map[int]int{
		16: 1, 18: 1, 22: 1, 24: 1, 26: 1, 30: 1, 32: 3, 36: 2, 44: 3, 48: 9, 80: 7, 96: 40, 168: 4, 176: 31, 208: 63, 272: 3, 276: 2, 284: 2,
	}
	return laid("mixed", l, fields, []int{20, 28, 40, 88, 160, 280}, api.Lists{{28, 20}, {40}, {160}})
}

// good are heaps that may be.
func good() []known {
	return []known{
		mixed(),
		laid("one free page", make([]api.Page, 1), nil, nil, api.Lists{}),
		laid("64 free pages", make([]api.Page, 64), nil, nil, api.Lists{}),
		laid("class 0 alone", []api.Page{small(0)}, map[int]int{16: 1, 18: 1, 20: 1, 22: 1, 24: 1, 26: 1, 28: 1, 30: 1}, nil, api.Lists{}),
		laid("class 1, with nil and empty lists", []api.Page{{}, small(1)}, map[int]int{32: 2, 44: 3}, []int{36, 40}, api.Lists{nil, {40, 36}, {}}),
		laid("class 2, behind free pages", []api.Page{{}, {}, small(2), {}}, map[int]int{48: 4, 56: 7}, nil, api.Lists{}),
		laid("large ones of one page", slices.Repeat(run(1), 3), map[int]int{16: 8, 32: 15, 48: 11}, nil, api.Lists{}),
		laid("large ones of four", slices.Repeat(run(4), 16), map[int]int{16: 48, 80: 63, 144: 50, 208: 51, 272: 52, 336: 53, 400: 54, 464: 55, 528: 56, 592: 57, 656: 58, 720: 59, 784: 60, 848: 61, 912: 62, 976: 63}, nil, api.Lists{}),
		laid("cells that are free alone", []api.Page{small(0), small(2)}, nil, []int{16, 18, 20, 22, 24, 26, 28, 30, 32, 40}, api.Lists{{16, 30}, nil, {32}}),
	}
}

// bad are heaps that may not be: each of what heap's chapter asks for is missing in one at least.
func bad() []known {
	changed := func(name string, change func(h *api.Heap)) known {
		k := mixed()
		change(&k.h)
		return known{name, k.h, nil}
	}
	first := func(name string, a, w int) known { return changed(name, func(h *api.Heap) { h.W[a-16] = w }) }
	page := func(name string, at int, p api.Page) known {
		return changed(name, func(h *api.Heap) { h.Pages[at] = p })
	}
	onFree := func(name string, class, a int) known {
		return changed(name, func(h *api.Heap) { h.Free[class] = append(h.Free[class], a) })
	}
	return []known{
		{name: "nothing at all"}, {name: "empty", h: api.Heap{W: []int{}, Pages: []api.Page{}, Cards: []bool{}}}, laid("65 pages", make([]api.Page, 65), nil, nil, api.Lists{}),
		changed("no words", func(h *api.Heap) { h.W = nil }), changed("no pages", func(h *api.Heap) { h.Pages = nil }), changed("no cards", func(h *api.Heap) { h.Cards = nil }),
		changed("a word less", func(h *api.Heap) { h.W = h.W[:len(h.W)-1] }), changed("a page of words more", func(h *api.Heap) { h.W = append(h.W, make([]int, 16)...) }),
		changed("a page less", func(h *api.Heap) { h.Pages = h.Pages[:len(h.Pages)-1] }), changed("a page more", func(h *api.Heap) { h.Pages = append(h.Pages, api.Page{}) }),
		changed("a card less", func(h *api.Heap) { h.Cards = h.Cards[1:] }), changed("a card more", func(h *api.Heap) { h.Cards = append(h.Cards, true) }),
		page("a free page with an Arg", 3, api.Page{Arg: 1}), page("a kind that there is not", 3, api.Page{Kind: api.Kinds}), page("a page that goes on behind none", 3, api.Page{Kind: api.PageRest}), page("one that does not go on", 6, api.Page{}), page("a class that there is not", 0, small(3)),
		first("a first word that is no head's", 20, 2), first("a first word below 0", 28, -1), first("a large object that is not used", 48, 0), first("as many fields as are another class's", 32, 1+8*4), first("as many fields as are of another run", 176, 1+8*32), first("a cell of Free that is used", 40, 1+8*3),
		onFree("a cell that is told of twice", 0, 20), onFree("a cell of another class", 0, 280), onFree("an address of no cell", 1, 42), onFree("a nought", 2, 0),
	}
}

// addresses are all that a heap has, those around it, and such as are far off.
func addresses(h api.Heap) []int {
	l := slices.Clone(far)
	for a := -20; a < 16+len(h.W)+20; a++ {
		l = append(l, a)
	}
	return l
}

// checkObject holds Object of an address in each register, the others of which have another one, against what is there.
func checkObject(t *testing.T, k known, x api.Thread, a int) {
	t.Helper()
	for r := range 4 {
		x.R = [4]int{16, 48, 96, 208}
		x.R[r] = a
		n, begins := k.fields[a]
		at, e := a, api.OK
		if !begins {
			at, e = 0, api.ErrNil
		}
		if gotAt, gotN, gotE := regs.Object(k.h, x, r); gotAt != at || gotN != n || gotE != e {
			t.Fatalf("%s: %d in register %d: %d, %d, %d; want %d, %d, %d", k.name, a, r, gotAt, gotN, gotE, at, n, e)
		}
	}
}

// P12.2, R1: Object of each address of all heaps at hand, and of such as no heap has, by threads that may be, and that may not.
func TestObject(t *testing.T) {
	for i, k := range slices.Concat(good(), bad()) {
		all := addresses(k.h)
		if len(k.fields) == 0 { // where mixed has objects, too
			all = append(all, addresses(mixed().h)...)
		}
		for j, a := range all {
			checkObject(t, k, threads()[(i+j)%len(threads())], a)
		}
	}
}

// P12.2, R2: Get's error is told first, also of a heap that may not be; and nothing else.
func TestObjectWrongRegister(t *testing.T) {
	for _, k := range slices.Concat(good(), bad()) {
		for i, x := range threads() {
			for _, r := range wrongRegisters {
				if a, n, e := regs.Object(k.h, x, r); a != 0 || n != 0 || e != api.ErrArg {
					t.Fatalf("%s, thread %d, register %d: %d, %d, %d", k.name, i, r, a, n, e)
				}
			}
		}
	}
}

// P12.2: what the chapter and its heap tell apart, by hand.
func TestObjectByHand(t *testing.T) {
	h := mixed().h
	for name, c := range map[string]struct{ a, n int }{
		"class 0": {26, 1}, "class 1, less than it has room for": {36, 2}, "class 1": {44, 3}, "class 2, less than it has room for": {168, 4}, "class 2": {80, 7},
		"one page": {48, 9}, "two pages": {176, 31}, "three pages": {96, 40}, "four pages": {208, 63},
	} {
		if a, n, e := regs.Object(h, api.Thread{R: [4]int{0, 0, 0, c.a}}, 3); a != c.a || n != c.n || e != api.OK {
			t.Errorf("%s: %d, %d, %d", name, a, n, e)
		}
	}
	for name, a := range map[string]int{
		"nothing": 0, "a cell on Free": 40, "a cell told of nowhere": 88, "a free page": 64, "the last free page": 288, "a small object's midst": 33, "its last word": 35, "a large object's midst": 49, "a page on which one goes on": 112,
		"below the first word": 15, "behind the last one": 304, "below 0": -16, "far below": math.MinInt, "far off": math.MaxInt, "far off, but for some bits": 1<<32 + 16,
	} {
		if at, n, e := regs.Object(h, api.Thread{R: [4]int{0, 0, 0, a}}, 3); at != 0 || n != 0 || e != api.ErrNil {
			t.Errorf("%s: %d, %d, %d", name, at, n, e)
		}
	}
}

// P12.2: an object of each number of fields there may be.
func TestObjectFields(t *testing.T) {
	for n := 1; n <= api.MaxFields; n++ {
		h, _ := heap.New(5)
		h, cache, other, _ := alloc.Take(h, api.Lists{}, api.Head{Used: true, N: 2})
		h, cache, a, e := alloc.Take(h, cache, api.Head{Used: true, Old: n%2 == 0, N: n})
		if e != api.OK {
			t.Fatalf("%d fields: %d", n, e)
		}
		x := api.Thread{R: [4]int{other, 0, a, other}, Cache: cache}
		if at, m, e := regs.Object(h, x, 2); at != a || m != n || e != api.OK {
			t.Errorf("%d fields at %d: %d, %d, %d", n, a, at, m, e)
		}
	}
}

// P12.2: objects that are taken, and freed, one behind the other: at each step Object tells of those that there are.
func TestObjectsComeAndGo(t *testing.T) {
	k := known{name: "nine pages", fields: map[int]int{}}
	k.h, _ = heap.New(9)
	var x api.Thread
	for i := range 120 {
		n := []int{1, 8, 3, 20, 5, 2, 1, 63, 7, 40, 1, 4}[i*5%12]
		if h, cache, a, e := alloc.Take(k.h, x.Cache, api.Head{Used: true, N: n, Born: i}); e == api.OK {
			k.h, x.Cache, k.fields[a] = h, cache, n
		}
		for _, a := range heap.Used(k.h) {
			if (a/2+i)%4 == 0 {
				k.h, _ = reap.Free(k.h, a)
				delete(k.fields, a)
			}
		}
		for a := 14; a < 162; a++ {
			checkObject(t, k, x, a)
		}
	}
}

// epochs are numbers of cycles: such as are the same, and such as are not, but for some bits.
var epochs = []int{0, 1, 2, 3, 7, 1<<20 - 1, 1 << 20, 1<<20 + 1, -1, 1 << 32, 1<<32 + 3, 1<<8 + 1, math.MinInt, math.MaxInt}

// phases are all there are, and such as there are not.
var phases = append([]int{-1, -2, api.Idle, api.Arm, api.Settle, api.Roots, api.Scan, api.Trace, api.Sweep, api.Phases, 8, 9}, far...)

// cols are collectors with all else in many ways.
func cols() []api.Col {
	return []api.Col{
		{}, {Major: true}, {Work: []int{16, 18, 20, 22}, Over: true, Met: true},
		{Major: true, Work: []int{-1, 0, 1, 2, 3, 4}, At: 16, Field: 3, Seek: -1, Card: 1 << 40},
	}
}

// P12.3: Armed where the Epoch is the collector's, and the Phase from Arm to Trace, and Black where the Epoch is, the Stage is 3, and the Phase is not Idle; nothing else is asked.
func TestArmedAndBlack(t *testing.T) {
	arming, stages := []int{1, 2, 3, 4, 5}, append([]int{-1, 0, 1, 2, 3, 4, 5, 7}, far...)
	ts, cs := threads(), cols()
	n := 0
	for _, phase := range phases {
		for _, epoch := range epochs {
			for _, other := range epochs {
				for _, stage := range stages {
					x, c := ts[n%len(ts)], cs[n/len(ts)%len(cs)]
					n++
					c.Phase, c.Epoch, x.Epoch, x.Stage = phase, epoch, other, stage
					if got, want := regs.Armed(c, x), epoch == other && slices.Contains(arming, phase); got != want {
						t.Fatalf("%v of %v: armed: %t", x, c, got)
					}
					if got, want := regs.Black(c, x), epoch == other && stage == 3 && phase != 0; got != want {
						t.Fatalf("%v of %v: black: %t", x, c, got)
					}
				}
			}
		}
	}
}

// P12.3: Armed and Black by hand, phase by phase.
func TestArmedAndBlackByHand(t *testing.T) {
	for i, c := range []struct {
		phase        int
		armed, black bool
	}{
		{-1, false, true}, {api.Idle, false, false}, {api.Arm, true, true}, {api.Settle, true, true}, {api.Roots, true, true}, {api.Scan, true, true}, {api.Trace, true, true}, {api.Sweep, false, true}, {api.Phases, false, true},
	} {
		col := api.Col{Phase: c.phase, Epoch: 6}
		for stage := -1; stage < 5; stage++ {
			x := api.Thread{Epoch: 6, Stage: stage}
			if regs.Armed(col, x) != c.armed || regs.Black(col, x) != (c.black && stage == 3) {
				t.Errorf("%d, Stage %d: %t, %t", i, stage, regs.Armed(col, x), regs.Black(col, x))
			}
			for _, x.Epoch = range []int{0, 5, 7} {
				if regs.Armed(col, x) || regs.Black(col, x) {
					t.Errorf("%d, Stage %d, another Epoch", i, stage)
				}
			}
		}
	}
}

// asked is what calls are handed, each the parts that it has.
type asked struct {
	H api.Heap
	C api.Col
	T api.Thread
}

// answer is what a call tells: those of its parts that the call has.
type answer struct {
	T    api.Thread
	L    []int
	A, N int
	E    api.Errno
	Ok   bool
}

// call is one of the package's, of some register.
type call struct {
	name string
	ask  func(x asked) answer
}

// calls are all of the package's, at some registers that a thread has, or not.
func calls() []call {
	l := []call{
		{"May", func(x asked) answer { return answer{Ok: regs.May(x.T)} }},
		{"Holds", func(x asked) answer { return answer{L: regs.Holds(x.T)} }},
		{"Armed", func(x asked) answer { return answer{Ok: regs.Armed(x.C, x.T)} }},
		{"Black", func(x asked) answer { return answer{Ok: regs.Black(x.C, x.T)} }},
	}
	for _, r := range []int{-1, 0, 1, 2, 3, 4, math.MinInt, math.MaxInt} {
		get := func(x asked) answer {
			a, e := regs.Get(x.T, r)
			return answer{A: a, E: e}
		}
		object := func(x asked) answer {
			a, n, e := regs.Object(x.H, x.T, r)
			return answer{A: a, N: n, E: e}
		}
		l = append(l, call{fmt.Sprint("Get of ", r), get}, call{fmt.Sprint("Object of ", r), object})
		for _, a := range []int{0, 16, -1} {
			put := func(x asked) answer {
				u, e := regs.Put(x.T, r, a)
				return answer{T: u, E: e}
			}
			l = append(l, call{fmt.Sprint("Put of ", a, " in ", r), put})
		}
	}
	return l
}

// all are things that calls are handed: threads of all kinds, with heaps and collectors.
func all() []asked {
	var l []asked
	heaps := slices.Concat(good(), bad())
	for i := range 3 * len(heaps) {
		c := cols()[i%4]
		c.Phase, c.Epoch = i%9-1, i%4
		l = append(l, asked{heaps[i/3].h, c, threads()[i%len(threads())]})
	}
	return l
}

// R3: what is handed in stays as it was, also behind its lists' ends, and what stands there changes no answer.
func TestHandedIn(t *testing.T) {
	for i, x := range all() {
		for _, f := range calls() {
			own, kept := roomy(x)
			if got, want := f.ask(own), f.ask(x); !same(got, want) {
				t.Fatalf("%d: %s of one with room behind its lists: %v; want %v", i, f.name, got, want)
			}
			if !kept() {
				t.Fatalf("%d: %s: what was handed in is another one", i, f.name)
			}
		}
	}
}

// R3: what is answered is the caller's own, a thread's operations and cache, and what Holds tells, also where an error is told: written over it changes nothing of what was handed in, nor of another answer; nor the other way round.
func TestAnsweredOwn(t *testing.T) {
	for i, x := range all() {
		for _, f := range calls() {
			own, kept := roomy(x)
			first, second := f.ask(own), f.ask(own)
			want := clone(second, 0)
			spoil(first)
			if !kept() || !same(second, want) {
				t.Fatalf("%d: what %s answered is shared", i, f.name)
			}
			spoil(own)
			if !same(second, want) {
				t.Fatalf("%d: what %s was handed is shared", i, f.name)
			}
		}
	}
}

// R3: no two lists of one answer share memory, also where those that were handed in do: each of them written over, with the room behind its end, changes none but itself.
func TestAnswersApart(t *testing.T) {
	on := []int{18, 20, 36, 40, 56, 48, 16}
	for i, x := range threads() {
		x.Cache = api.Lists{on[:2], on[2:4], on[4:5]} // one behind the other
		x.X, x.Y = 16, 18
		for _, f := range calls() {
			want := f.ask(asked{T: x})
			for n := range lists(&want) {
				got := f.ask(asked{T: x})
				ruinFrom(lists(&got)[n], 0)
				for m, l := range lists(&got) {
					if was := lists(&want)[m]; m != n && !same(l.Interface(), was.Interface()) {
						t.Fatalf("thread %d, %s: with list %d list %d is changed: %v", i, f.name, n, m, l)
					}
				}
			}
		}
		if !slices.Equal(on, []int{18, 20, 36, 40, 56, 48, 16}) {
			t.Fatalf("thread %d: what was handed in is %v", i, on)
		}
	}
}

// R5: what is asked again is answered alike, whatever was asked between.
func TestAskedAgain(t *testing.T) {
	x := asked{mixed().h, api.Col{Phase: api.Trace, Epoch: 3}, threads()[3]}
	var want []answer
	for _, f := range calls() {
		want = append(want, clone(f.ask(x), 0))
	}
	for _, other := range all() {
		for _, f := range calls() {
			f.ask(other)
		}
		for i, f := range calls() {
			if got := f.ask(x); !same(got, want[i]) {
				t.Fatalf("%s: %v; want %v", f.name, got, want[i])
			}
		}
	}
}

// R1: nothing at all, and zero values.
func TestNothing(t *testing.T) {
	want := map[string]answer{"May": {Ok: true}, "Armed": {}, "Black": {}, "Holds": {}, "Get of 0": {}, "Object of 0": {E: api.ErrNil}, "Put of 0 in 0": {}, "Put of 16 in 1": {T: api.Thread{R: [4]int{0, 16, 0, 0}}}, "Get of -1": {E: api.ErrArg}, "Object of 4": {E: api.ErrArg}, "Put of 16 in 4": {E: api.ErrArg}}
	for _, f := range calls() {
		if w, known := want[f.name]; known && !same(f.ask(asked{}), w) {
			t.Errorf("%s: %v; want %v", f.name, f.ask(asked{}), w)
		}
	}
}

// The chapter's example.
func TestExample(t *testing.T) {
	x, e := regs.Put(api.Thread{}, 2, 16)
	if l := regs.Holds(x); e != api.OK || !slices.Equal(l, []int{16}) {
		t.Errorf("%v, %d", l, e)
	}
}
