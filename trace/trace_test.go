package trace_test

import (
	"fmt"
	"math"
	"reflect"
	"slices"
	"testing"

	"ragpicker/api"
	"ragpicker/hand"
	"ragpicker/heap"
	"ragpicker/mutate"
	"ragpicker/reap"
	"ragpicker/regs"
	"ragpicker/shade"
	"ragpicker/trace"
)

// far are numbers so far off that they would be right, if fewer bits of them were looked at, or a sum of them wraps.
var far = []int{
	math.MinInt, math.MinInt + 1, math.MinInt + 18, math.MinInt32, -1 << 61, -1 << 32, -1<<32 + 18, -1<<16 + 1, -256, -238,
	1<<8 + 18, 1 << 16, 1<<16 + 1, 1<<16 + 18, math.MaxInt32, 1 << 32, 1<<32 + 1, 1<<32 + 18, 1 << 60, 1 << 62, math.MaxInt - 18, math.MaxInt - 1, math.MaxInt,
}

// noPhases are numbers of phases that there are not.
var noPhases = append([]int{-1, -2, -5, api.Phases, 8, 9, 13, 1<<8 + 5, 1<<16 + 5, 1<<32 + 5, -1<<32 + 5, math.MinInt + 5}, far...)

// others are all phases but Trace, and such as there are not.
var others = append([]int{api.Idle, api.Arm, api.Settle, api.Roots, api.Scan, api.Sweep}, noPhases...)

// noEpochs are numbers of cycles that there are not: nothing is grey then.
var noEpochs = []int{-1, -5, 1<<20 + 1, 1<<20 + 5, 1 << 21, 1 << 32, 1<<32 + 5, -1<<32 + 5, math.MinInt, math.MinInt + 5, math.MaxInt}

// copied is v with memory of its own, and room for so many more behind each list's end, which look like something.
func copied(v reflect.Value, more int) reflect.Value {
	own := reflect.New(v.Type()).Elem()
	own.Set(v)
	switch v.Kind() {
	case reflect.Struct:
		for i := range v.NumField() {
			own.Field(i).Set(copied(v.Field(i), more))
		}
	case reflect.Array:
		for i := range v.Len() {
			own.Index(i).Set(copied(v.Index(i), more))
		}
	case reflect.Slice:
		if v.IsNil() && more == 0 {
			return own
		}
		own.Set(reflect.MakeSlice(v.Type(), v.Len()+more, v.Len()+more))
		for i := range v.Len() {
			own.Index(i).Set(copied(v.Index(i), more))
		}
		for i := v.Len(); i < own.Len(); i++ {
			ruin(own.Index(i))
		}
		own.SetLen(v.Len())
	}
	return own
}

// clone is x with memory of its own.
func clone[T any](x T) T { return copied(reflect.ValueOf(x), 0).Interface().(T) }

// ruin writes over a number, a bool, or what is made of these; lists stay. A number is another one then, also behind a second time.
func ruin(v reflect.Value) {
	switch v.Kind() {
	case reflect.Int:
		v.SetInt(3*v.Int() - 77)
	case reflect.Bool:
		v.SetBool(!v.Bool())
	case reflect.Struct:
		for i := range v.NumField() {
			ruin(v.Field(i))
		}
	case reflect.Array:
		for i := range v.Len() {
			ruin(v.Index(i))
		}
	}
}

// lists are all lists that a value has, also in elements of lists, each as long as there is room for.
func lists(v reflect.Value) []reflect.Value {
	var all []reflect.Value
	switch v.Kind() {
	case reflect.Struct:
		for i := range v.NumField() {
			all = append(all, lists(v.Field(i))...)
		}
	case reflect.Slice:
		v = v.Slice(0, v.Cap())
		all = append(all, v)
		fallthrough
	case reflect.Array:
		for i := range v.Len() {
			all = append(all, lists(v.Index(i))...)
		}
	}
	return all
}

// ruinList writes over a list.
func ruinList(l reflect.Value) {
	for i := range l.Len() {
		ruin(l.Index(i))
	}
}

// spoil writes over all lists of x, and over the room behind their ends.
func spoil[T any](x T) {
	for _, l := range lists(reflect.ValueOf(x)) {
		ruinList(l)
	}
}

// alike tells whether two values are the same, but that lists without elements may be nil or empty (R6).
func alike(v, u reflect.Value) bool {
	switch v.Kind() {
	case reflect.Struct:
		for i := range v.NumField() {
			if !alike(v.Field(i), u.Field(i)) {
				return false
			}
		}
		return true
	case reflect.Array, reflect.Slice:
		if v.Len() != u.Len() {
			return false
		}
		for i := range v.Len() {
			if !alike(v.Index(i), u.Index(i)) {
				return false
			}
		}
		return true
	}
	return v.Equal(u)
}

func same[T any](x, y T) bool { return alike(reflect.ValueOf(x), reflect.ValueOf(y)) }

// roomy is x with memory of its own, and room behind each list's end; and a function that tells whether all of it, with that room, is as it was.
func roomy[T any](x T) (T, func() bool) {
	own := copied(reflect.ValueOf(x), 3)
	all := lists(own)
	var was []reflect.Value
	for _, l := range all {
		was = append(was, copied(l, 0))
	}
	return own.Interface().(T), func() bool {
		for i, l := range all {
			if !alike(l, was[i]) {
				return false
			}
		}
		return true
	}
}

// state is what a step is given, and what all is behind it.
type state struct {
	H api.Heap
	C api.Col
}

func step(x state) state {
	h, c := trace.Step(x.H, x.C)
	return state{h, c}
}

// check holds what a step of x answers against what is wanted.
func check(t *testing.T, name string, x, want state) {
	t.Helper()
	if got := step(x); !same(got, want) {
		t.Fatalf("%s: %v:\n got %v, %v\nwant %v, %v", name, x.C, got.C, got.H, want.C, want.H)
	}
}

// word is a head's word, as chapter 1 says it.
func word(x api.Head) int {
	w := 0
	for i, is := range []bool{x.Used, x.Old, x.Done} {
		if is {
			w += 1 << i
		}
	}
	return w + 8*x.N + 1024*x.Born + 4294967296*x.Mark
}

// head is the head whose word stands at a, where a cell begins.
func (x state) head(a int) api.Head {
	w := x.H.W[a-16]
	return api.Head{Used: w%2 == 1, Old: w/2%2 == 1, Done: w/4%2 == 1, N: w / 8 % 64, Born: w / 1024 % (1 << 21), Mark: w / 4294967296}
}

// starts are the addresses at which cells begin on pages that may be, rising, as chapter 5 says it.
func starts(l []api.Page) []int {
	var all []int
	for page, p := range l {
		at := 16 + 16*page
		switch p.Kind {
		case 1:
			for next := at; next < at+16; next += []int{2, 4, 8}[p.Arg] {
				all = append(all, next)
			}
		case 2:
			all = append(all, at)
		}
	}
	return all
}

// objects are the addresses at which objects begin, rising.
func (x state) objects() []int {
	return slices.DeleteFunc(starts(x.H.Pages), func(a int) bool { return !x.head(a).Used })
}

// The colours, as chapter 11 says them.
const (
	none = iota
	leftOut
	white
	grey
	black
)

// colour is the one that the object has that begins at a; none, if none does.
func (x state) colour(a int) int {
	if x.C.Epoch < 0 || x.C.Epoch > 1048576 || !slices.Contains(x.objects(), a) {
		return none
	}
	switch y := x.head(a); {
	case y.Old && !x.C.Major:
		return leftOut
	case y.Mark < x.C.Epoch:
		return white
	case !y.Done:
		return grey
	}
	return black
}

// coloured are the addresses of all objects of a colour, rising.
func (x state) coloured(colour int) []int {
	return slices.DeleteFunc(x.objects(), func(a int) bool { return x.colour(a) != colour })
}

// has is x with another head of the object at a.
func (x state) has(a int, y api.Head) state {
	x = clone(x)
	y.Used = true
	x.H.W[a-16] = word(y)
	return x
}

// black is x with the object at a done.
func (x state) black(a int) state {
	y := x.head(a)
	y.Done = true
	return x.has(a, y)
}

// shaded is x with what begins at a grey, and known of, if it was white.
func (x state) shaded(a int) state {
	if x.colour(a) != white {
		return x
	}
	y := x.head(a)
	y.Mark, y.Done = x.C.Epoch, false
	x = x.has(a, y)
	if len(x.C.Work) < 4 {
		x.C.Work = append(x.C.Work, a)
	} else {
		x.C.Over = true
	}
	return x
}

// leads is x with what the field f has of the object at a.
func (x state) leads(a, f, to int) state {
	x = clone(x)
	x.H.W[a-16+1+f] = to
	return x
}

// at is x with an object, or whatever there is, at At, at a field.
func (x state) at(a, f int) state {
	x.C.At, x.C.Field = a, f
	return x
}

// work, seek and over are x with that of its collector.
func (x state) work(l ...int) state {
	x.C.Work = l
	return x
}

func (x state) seek(a int) state {
	x.C.Seek = a
	return x
}

func (x state) over(is bool) state {
	x.C.Over = is
	return x
}

// major is x in a major cycle, or in a minor one.
func (x state) major(is bool) state {
	x.C.Major = is
	return x
}

// small and run are pages: one of small cells, and all that a large object has.
func small(class int) api.Page { return api.Page{Kind: api.PageSmall, Arg: class} }

func run(n int) []api.Page {
	return append([]api.Page{{Kind: api.PageLarge, Arg: n}}, slices.Repeat([]api.Page{{Kind: api.PageRest}}, n-1)...)
}

// noise are so many words, that look like heads, or like addresses, or are nothing at all.
func noise(n int) []int {
	var l []int
	for i := range n {
		l = append(l, []int{36, 0, 65, word(api.Head{Used: true, N: 3, Mark: 4}), -1, 18, 1 << 40, word(api.Head{Used: true, N: 1, Mark: 5}), math.MinInt, 16, 2}[i%11])
	}
	return l
}

// heads are those of the heap at hand, but for Used, by where their objects begin.
func heads() map[int]api.Head {
	return map[int]api.Head{
		16: {N: 1, Mark: 4}, 18: {N: 1, Mark: 5}, 20: {N: 1, Mark: 5, Done: true}, 22: {N: 1, Old: true, Mark: 4}, 24: {N: 1, Old: true, Mark: 5}, 26: {N: 1, Old: true, Done: true, Mark: 6},
		32: {N: 3, Mark: 5, Born: 2}, 36: {N: 2, Done: true, Born: 1}, 40: {N: 3, Mark: 6, Done: true},
		48: {N: 7, Mark: 5}, 56: {N: 4, Mark: 1}, 80: {N: 12, Mark: 6}, 96: {N: 20, Mark: 5, Born: 5}, 128: {N: 5, Mark: 3}, 136: {N: 4, Mark: 1 << 20},
	}
}

// colours are those of the objects of the heap at hand in the cycle 5, and in one that is a major one.
var colours = []struct{ a, minor, major int }{
	{16, white, white}, {18, grey, grey}, {20, black, black}, {22, leftOut, white}, {24, leftOut, grey}, {26, leftOut, black}, {32, grey, grey}, {36, white, white}, {40, black, black},
	{48, grey, grey}, {56, white, white}, {80, grey, grey}, {96, grey, grey}, {128, white, white}, {136, grey, grey},
}

// greys are its objects that are grey in each cycle 5, those of one field and of many, the last cell's, and large ones.
var greys = []int{18, 32, 48, 80, 96, 136}

// nobody are addresses at which none of its objects begins: cells that are free, on Free or not; inside objects, where a large one goes on, and its last word; a free page; the last words, and those behind them; 1, below 0, and far outside.
var nobody = append([]int{28, 30, 44, 17, 19, 25, 33, 35, 39, 49, 55, 81, 95, 97, 112, 127, 137, 140, 141, 143, 144, 145, 160, 64, 66, 79, 15, 2, 1, -1, -2, -16, -18, -32}, far...)

// mixed is a heap of all kinds of pages, side by side, with objects of each class, and large ones, of every colour in the cycle 5; words that nobody asks about look like something. The collector is in Trace, and has nothing to go through, but something wherever it may be without that.
func mixed() state {
	l := slices.Concat([]api.Page{small(0), small(1), small(2), {}}, run(1), run(2), []api.Page{small(2)})
	h := api.Heap{W: noise(16 * len(l)), Pages: l, Free: api.Lists{{28}, {44}, nil}, Cards: make([]bool, 2*len(l))}
	for _, a := range starts(l) {
		h.W[a-16] = 0
	}
	for a, y := range heads() {
		y.Used = true
		h.W[a-16] = word(y)
	}
	h.Cards[0], h.Cards[9] = true, true
	return state{h, api.Col{Phase: api.Trace, Epoch: 5, Field: 2, Card: 3, Met: true}}
}

// calm is the same with nothing that is grey, also in a major cycle.
func calm() state {
	x := mixed()
	for _, a := range append([]int{24}, greys...) {
		x = x.black(a)
	}
	return x
}

// swept is x behind its last step.
func (x state) swept() state {
	x = x.at(0, 0).seek(0)
	x.C.Phase, x.C.Card, x.C.Met = api.Sweep, 0, false
	return x
}

// The heap at hand is such as the tests mean, and so are the colours.
func TestAtHand(t *testing.T) {
	x := mixed()
	if l := heap.Used(x.H); !heap.May(x.H) || !slices.Equal(l, x.objects()) || len(l) != len(heads()) || len(l) != len(colours) {
		t.Fatalf("objects at %v", l)
	}
	for _, is := range []bool{false, true} {
		x = x.major(is)
		for _, one := range colours {
			want := map[bool]int{false: one.minor, true: one.major}[is]
			if got, e := heap.Head(x.H, one.a); e != api.OK || got != x.head(one.a) || x.colour(one.a) != want || shade.White(x.H, x.C, one.a) != (want == white) {
				t.Errorf("another object: %v", one)
			}
		}
		if l := shade.Grey(x.H, x.C); !slices.Equal(l, x.coloured(grey)) {
			t.Errorf("grey are %v", l)
		}
		if l := shade.Grey(calm().H, x.C); len(l) > 0 {
			t.Errorf("grey are %v, where none should be", l)
		}
	}
	for _, a := range nobody {
		if _, e := heap.Head(x.H, a); e == api.OK {
			t.Errorf("an object at %d", a)
		}
	}
}

// say says again what the chapter says of a step.
func say(x state) state {
	c := x.C
	if !heap.May(x.H) || c.Phase != 5 {
		return x
	}
	if c.At != 0 {
		if x.colour(c.At) != grey || c.Field < 0 || c.Field >= x.head(c.At).N {
			return x.at(0, 0)
		}
		x = x.shaded(x.H.W[c.At-16+1+c.Field])
		if c.Field+1 < x.head(c.At).N {
			return x.at(c.At, c.Field+1)
		}
		return x.black(c.At).at(0, 0)
	}
	if n := len(c.Work); n > 0 {
		return x.work(c.Work[:n-1]...).at(c.Work[n-1], 0)
	}
	if c.Seek != 0 {
		for _, a := range starts(x.H.Pages) {
			if a > c.Seek {
				if x = x.seek(a); x.colour(a) == grey {
					x = x.at(a, 0)
				}
				return x
			}
		}
		return x.seek(0)
	}
	if c.Over {
		return x.over(false).seek(1)
	}
	return x.swept()
}

// sayOver says again what the chapter says of Over.
func sayOver(x state) bool {
	return len(x.C.Work) == 0 && !x.C.Over && x.C.At == 0 && x.C.Seek == 0 && (!heap.May(x.H) || len(x.coloured(grey)) == 0)
}

// busy are collectors, of the heap at hand, whose next step is one of each kind.
func busy() map[string]state {
	return map[string]state{
		"a field":               mixed().at(48, 3),
		"the last field":        mixed().at(32, 2),
		"no field":              mixed().at(32, 3),
		"none that is grey":     mixed().at(16, 0),
		"nobody":                mixed().at(17, 0),
		"one on Work":           mixed().work(48),
		"four on Work":          mixed().work(18, 48, 32, 80),
		"a cell":                mixed().seek(18),
		"a cell that is grey":   mixed().seek(16),
		"the last cell":         mixed().seek(136),
		"Over":                  mixed().over(true),
		"nothing":               mixed(),
		"nothing, also no grey": calm(),
		"all at once":           mixed().at(48, 6).work(18, 80).seek(32).over(true),
	}
}

// P16.1: in each phase but Trace, and in such as there are not, all stays as it is.
func TestOtherPhases(t *testing.T) {
	for name, x := range busy() {
		for _, phase := range others {
			for _, is := range []bool{false, true} {
				x := x.major(is)
				x.C.Phase = phase
				check(t, fmt.Sprint(name, ", Phase ", phase), x, x)
			}
		}
		if same(step(x), x) {
			t.Errorf("%s: a step changes nothing in Trace, too", name)
		}
	}
}

// wrongHeaps are heaps that may not be.
func wrongHeaps() map[string]api.Heap {
	m := map[string]api.Heap{
		"nothing at all": {}, "empty": {W: []int{}, Pages: []api.Page{}, Cards: []bool{}},
		"65 pages":    {W: make([]int, 65*16), Pages: make([]api.Page, 65), Cards: make([]bool, 130)},
		"words alone": {W: make([]int, 32)}, "pages alone": {Pages: make([]api.Page, 2)},
	}
	for name, change := range map[string]func(h *api.Heap){
		"no words":                            func(h *api.Heap) { h.W = nil },
		"no pages":                            func(h *api.Heap) { h.Pages = nil },
		"no cards":                            func(h *api.Heap) { h.Cards = nil },
		"a word less":                         func(h *api.Heap) { h.W = h.W[:127] },
		"a page less":                         func(h *api.Heap) { h.Pages = h.Pages[:7] },
		"a card more":                         func(h *api.Heap) { h.Cards = append(h.Cards, true) },
		"a kind of page that there is not":    func(h *api.Heap) { h.Pages[3].Kind = api.Kinds },
		"a class that there is not":           func(h *api.Heap) { h.Pages[0].Arg = 3 },
		"a large page that does not go on":    func(h *api.Heap) { h.Pages[6] = api.Page{} },
		"a first word that is no head's":      func(h *api.Heap) { h.W[20-16] = -1 },
		"a large page without an object":      func(h *api.Heap) { h.W[80-16] = 0 },
		"too many fields for a cell":          func(h *api.Heap) { h.W[36-16] = word(api.Head{Used: true, N: 4}) },
		"an object of no fields":              func(h *api.Heap) { h.W[18-16] = word(api.Head{Used: true, Mark: 5}) },
		"a cell on Free twice":                func(h *api.Heap) { h.Free[0] = []int{28, 30, 28} },
		"a cell on Free that is used":         func(h *api.Heap) { h.Free[1] = []int{32} },
		"an address on Free far off":          func(h *api.Heap) { h.Free[2] = []int{math.MaxInt} },
		"an address on Free, but for 32 bits": func(h *api.Heap) { h.Free[0] = []int{1<<32 + 28} },
	} {
		x := mixed()
		change(&x.H)
		m[name] = x.H
	}
	return m
}

// P16.1, R1: of a heap that may not be all stays as it is, whatever the next step would be; nothing of it is grey.
func TestWrongHeaps(t *testing.T) {
	for name, h := range wrongHeaps() {
		for as, x := range busy() {
			x.H = h
			check(t, name+", "+as, x, x)
			if want := as == "nothing" || as == "nothing, also no grey"; trace.Over(x.H, x.C) != want {
				t.Errorf("%s, %s: over: %t", name, as, !want)
			}
		}
	}
}

// works are lists of all lengths, of what is grey, and of what is not.
var works = [][]int{nil, {}, {48}, {18, 32}, {136, 80, 18}, {48, 18, 80, 32}, {18, 18}, {16}, {0}, {17, -1}, {20, 22, 28, 112}, {96, 18, 32, 48, 80}, {math.MinInt, math.MaxInt, 0, 1, 2, 3, 4, 5, 1<<32 + 18}}

// P16.1: where At has what is no grey object's address, by hand, or there is none at all in such a cycle, At and Field are 0, and nothing else changes, whatever Field is.
func TestAtNoGrey(t *testing.T) {
	fields := []int{0, 1, 2, -1, 7, math.MinInt, math.MaxInt}
	leave := func(x state, a int) {
		t.Helper()
		for i, f := range fields {
			x := x.work(works[i]...).over(i%2 == 0).seek(i * 20)
			check(t, fmt.Sprint("At ", a, ", Field ", f), x.at(a, f), x.at(0, 0))
		}
	}
	for _, is := range []bool{false, true} {
		for _, a := range nobody {
			leave(mixed().major(is), a)
		}
		for _, a := range greys {
			leave(calm().major(is), a)
		}
		for _, epoch := range noEpochs {
			for _, a := range []int{18, 24, 48, 136} {
				x := mixed().major(is)
				x.C.Epoch = epoch
				leave(x, a)
			}
		}
	}
	for _, a := range []int{16, 20, 22, 24, 26, 36, 40, 56, 128} {
		leave(mixed(), a)
	}
	for _, a := range []int{16, 20, 22, 26, 36, 40, 56, 128} {
		leave(mixed().major(true), a)
	}
	for _, a := range []int{18, 24, 32, 48, 96} { // white ones in the next cycle
		x := mixed().major(true)
		x.C.Epoch = 6
		leave(x, a)
	}
}

// P16.1: where a grey object has no such field, At and Field are 0, and nothing else changes: the object stays grey.
func TestNoField(t *testing.T) {
	for _, a := range append([]int{24}, greys...) {
		for i, f := range append([]int{-1, -2, -5, heads()[a].N, heads()[a].N + 1, heads()[a].N + 2, heads()[a].N + 16, 64, 128}, far...) {
			x := mixed().major(true).work(works[i%len(works)]...).over(i%2 == 0).seek(i % 3 * 16)
			check(t, fmt.Sprint("At ", a, ", Field ", f), x.at(a, f), x.at(0, 0))
		}
	}
}

// goes is x behind a step at the field f of the n ones of the object at a, by hand: it goes on to the next one, or the object is black.
func (x state) goes(a, f, n int) state {
	if f < n-1 {
		return x.at(a, f+1)
	}
	return x.black(a).at(0, 0)
}

// P16.1: what a field has is shaded, by hand, whatever that is: nothing, an object of each colour, itself, and what is no object's address; and Field is one more, but behind the last one the object is black, and At and Field are 0. Nothing else changes.
func TestField(t *testing.T) {
	for _, is := range []bool{false, true} {
		for _, a := range greys {
			n := heads()[a].N
			for f := range n {
				if f > 2 && f < n-2 && f%5 != 0 { // of the inner ones not all
					continue
				}
				for i, one := range append(slices.Clone(colours), struct{ a, minor, major int }{a: 0}) {
					x := mixed().major(is).leads(a, f, one.a).at(a, f).seek(i * 3)
					want := x
					if one.minor == white || is && one.major == white {
						y := heads()[one.a]
						y.Mark, y.Done = 5, false
						want = x.has(one.a, y).work(one.a)
					}
					check(t, fmt.Sprint("At ", a, ", Field ", f, " that has ", one.a, ", major: ", is), x, want.goes(a, f, n))
				}
				for i, to := range nobody {
					x := mixed().major(is).leads(a, f, to).at(a, f).seek(i % 5)
					check(t, fmt.Sprint("At ", a, ", Field ", f, " that has ", to), x, x.goes(a, f, n))
				}
			}
		}
	}
}

// P16.1: field by field, by hand: of an object of one field, of three, and of many; each field just once, in their order.
func TestAllFields(t *testing.T) {
	x := mixed().leads(18, 0, 56).at(18, 0)
	check(t, "one", x, x.black(18).has(56, api.Head{N: 4, Mark: 5}).work(56).at(0, 0))
	x = mixed().leads(32, 0, 128).leads(32, 1, 16).leads(32, 2, 36).at(32, 0)
	y := step(x)
	if !same(y, x.has(128, api.Head{N: 5, Mark: 5}).work(128).at(32, 1)) {
		t.Errorf("the first one of three: %v", y)
	}
	y = step(y)
	if !same(y, x.has(128, api.Head{N: 5, Mark: 5}).has(16, api.Head{N: 1, Mark: 5}).work(128, 16).at(32, 2)) {
		t.Errorf("the second one of three: %v", y)
	}
	y = step(y)
	if !same(y, x.has(128, api.Head{N: 5, Mark: 5}).has(16, api.Head{N: 1, Mark: 5}).has(36, api.Head{N: 2, Mark: 5, Born: 1}).black(32).work(128, 16, 36).at(0, 0)) {
		t.Errorf("the last one of three: %v", y)
	}
	for _, a := range greys {
		n := heads()[a].N
		x := mixed()
		for f := range n {
			x = x.leads(a, f, 0)
		}
		was := x
		x = x.at(a, 0)
		for f := range n {
			if x = step(x); !same(x, was.goes(a, f, n)) {
				t.Fatalf("at %d, behind the field %d: %v", a, f, x.C)
			}
		}
		if x.colour(a) != black || x.C.At != 0 || x.C.Field != 0 {
			t.Errorf("at %d: not black: %v", a, x.C)
		}
	}
}

// P16.1: large objects of the most fields of each run of pages, and the least, and small ones of both: the last field of all is gone through, and not what is behind it.
func TestMostFields(t *testing.T) {
	for _, one := range []struct {
		pages  []api.Page
		fields int
	}{
		{[]api.Page{small(0)}, 1}, {[]api.Page{small(1)}, 2}, {[]api.Page{small(1)}, 3}, {[]api.Page{small(2)}, 4}, {[]api.Page{small(2)}, 7},
		{run(1), 8}, {run(1), 15}, {run(2), 16}, {run(2), 31}, {run(3), 32}, {run(3), 47}, {run(4), 48}, {run(4), 63},
	} {
		l := slices.Concat([]api.Page{{}}, one.pages, []api.Page{small(0)})
		other := 16 * len(l) // where the last page begins
		x := state{api.Heap{W: slices.Repeat([]int{other + 2}, 16*len(l)), Pages: l, Cards: make([]bool, 2*len(l))}, api.Col{Phase: api.Trace, Epoch: 1}}
		for _, a := range starts(l) {
			x.H.W[a-16] = 0
		}
		x = x.has(32, api.Head{N: one.fields, Mark: 1}).has(other, api.Head{N: 1}).has(other+2, api.Head{N: 1}).at(32, one.fields-1)
		for f := range one.fields {
			x = x.leads(32, f, 0)
		}
		check(t, fmt.Sprint("nothing in ", one.fields), x, x.black(32).at(0, 0))
		x = x.leads(32, one.fields-1, other)
		check(t, fmt.Sprint("the last of ", one.fields), x, x.black(32).has(other, api.Head{N: 1, Mark: 1}).work(other).at(0, 0))
		check(t, fmt.Sprint("behind the last of ", one.fields), x.at(32, one.fields), x.at(0, 0))
	}
}

// P16.1: where Work has room what is shaded stands behind it; where it is full, or too long, the collector is Over; what is not shaded changes neither.
func TestFieldFullWork(t *testing.T) {
	for _, l := range works {
		for _, over := range []bool{false, true} {
			x := mixed().leads(48, 2, 56).leads(48, 6, 128).leads(48, 1, 20).work(l...).over(over)
			grown := x.over(true)
			if len(l) < 4 {
				grown = x.work(append(slices.Clone(l), 56)...)
			}
			check(t, fmt.Sprint("Work ", l), x.at(48, 2), grown.has(56, api.Head{N: 4, Mark: 5}).at(48, 3))
			grown = x.over(true)
			if len(l) < 4 {
				grown = x.work(append(slices.Clone(l), 128)...)
			}
			check(t, fmt.Sprint("Work ", l, ", the last field"), x.at(48, 6), grown.has(128, api.Head{N: 5, Mark: 5}).black(48).at(0, 0))
			check(t, fmt.Sprint("Work ", l, ", nothing white"), x.at(48, 1), x.at(48, 2))
		}
	}
}

// P16.1: in the first cycle, in the last one, and in the one of which nothing is white.
func TestEpochs(t *testing.T) {
	for _, one := range []struct {
		epoch int
		white bool
	}{{0, false}, {1, true}, {2, true}, {1<<20 - 1, true}, {1 << 20, true}} {
		x := mixed().has(18, api.Head{N: 1, Mark: one.epoch}).has(20, api.Head{N: 1}).leads(18, 0, 20).at(18, 0)
		x.C.Epoch = one.epoch
		want := x.black(18).at(0, 0)
		if one.white {
			want = want.has(20, api.Head{N: 1, Mark: one.epoch}).work(20)
		}
		check(t, fmt.Sprint("Epoch ", one.epoch), x, want)
		check(t, fmt.Sprint("Epoch ", one.epoch, ", a cell"), x.at(0, 3).seek(17), x.at(18, 0).seek(18))
	}
}

// P16.1: the last one of Work is At, by hand, whatever it is; it is on Work no more, Field is 0, and nothing else changes.
func TestWork(t *testing.T) {
	for _, w := range []struct {
		work, then []int
		at         int
	}{
		{[]int{48}, nil, 48}, {[]int{18, 32}, []int{18}, 32}, {[]int{136, 80, 18}, []int{136, 80}, 18}, {[]int{48, 18, 80, 32}, []int{48, 18, 80}, 32}, {[]int{96, 18, 32, 48, 80}, []int{96, 18, 32, 48}, 80}, {[]int{18, 18}, []int{18}, 18},
		{[]int{16}, nil, 16}, {[]int{20}, nil, 20}, {[]int{48, 22}, []int{48}, 22}, {[]int{0}, nil, 0}, {[]int{48, 0}, []int{48}, 0}, {[]int{0, 48}, []int{0}, 48}, {[]int{17, -1}, []int{17}, -1}, {[]int{112}, nil, 112}, {[]int{28}, nil, 28},
		{[]int{1, 2, 3, math.MinInt}, []int{1, 2, 3}, math.MinInt}, {[]int{1, 2, 3, 4, 5, 6, math.MaxInt}, []int{1, 2, 3, 4, 5, 6}, math.MaxInt}, {[]int{1<<32 + 18}, nil, 1<<32 + 18},
	} {
		for i, f := range []int{0, 2, -1, 7, math.MinInt, math.MaxInt} {
			for _, seek := range []int{0, 1, 32, -1, 144} {
				x := mixed().work(w.work...).over(i%2 == 0).seek(seek).major(i%3 == 0)
				check(t, fmt.Sprint("Work ", w.work), x.at(0, f), x.work(w.then...).at(w.at, 0))
			}
		}
	}
}

// seeks are what Seek may have in the heap at hand, and then, and at which object that is At in a minor, and in a major cycle; 0, if it is none.
var seeks = []struct{ seek, then, minor, major int }{
	{1, 16, 0, 0}, {2, 16, 0, 0}, {15, 16, 0, 0}, {-1, 16, 0, 0}, {-16, 16, 0, 0}, {-18, 16, 0, 0}, {math.MinInt, 16, 0, 0}, {math.MinInt + 16, 16, 0, 0}, {-1 << 32, 16, 0, 0}, {-1<<32 + 30, 16, 0, 0},
	{16, 18, 18, 18}, {17, 18, 18, 18}, {18, 20, 0, 0}, {19, 20, 0, 0}, {20, 22, 0, 0}, {21, 22, 0, 0}, {22, 24, 0, 24}, {23, 24, 0, 24}, {24, 26, 0, 0}, {25, 26, 0, 0}, {26, 28, 0, 0}, {28, 30, 0, 0}, {30, 32, 32, 32}, {31, 32, 32, 32},
	{32, 36, 0, 0}, {33, 36, 0, 0}, {35, 36, 0, 0}, {36, 40, 0, 0}, {40, 44, 0, 0}, {43, 44, 0, 0}, {44, 48, 48, 48}, {47, 48, 48, 48}, {48, 56, 0, 0}, {55, 56, 0, 0}, {56, 80, 80, 80}, {63, 80, 80, 80}, {64, 80, 80, 80}, {72, 80, 80, 80}, {79, 80, 80, 80},
	{80, 96, 96, 96}, {81, 96, 96, 96}, {95, 96, 96, 96}, {96, 128, 0, 0}, {97, 128, 0, 0}, {112, 128, 0, 0}, {127, 128, 0, 0}, {128, 136, 136, 136}, {135, 136, 136, 136},
	{136, 0, 0, 0}, {137, 0, 0, 0}, {143, 0, 0, 0}, {144, 0, 0, 0}, {145, 0, 0, 0}, {1040, 0, 0, 0}, {1<<8 + 16, 0, 0, 0}, {1 << 32, 0, 0, 0}, {1<<32 + 16, 0, 0, 0}, {1 << 62, 0, 0, 0}, {math.MaxInt, 0, 0, 0}, {math.MaxInt - 16, 0, 0, 0},
}

// P16.1: the next cell behind Seek is Seek, by hand; where it has a grey object that is At, from its first field on; behind the last cell Seek is 0. Nothing else changes.
func TestSeek(t *testing.T) {
	for _, w := range seeks {
		for i, f := range []int{0, 2, -1, math.MinInt, math.MaxInt} {
			for _, is := range []bool{false, true} {
				at := w.minor
				if is {
					at = w.major
				}
				x := mixed().major(is).over(i%2 == 0).at(0, f)
				want := x.seek(w.then)
				if at != 0 {
					want = want.at(at, 0)
				}
				check(t, fmt.Sprint("Seek ", w.seek, ", major: ", is), x.seek(w.seek), want)
				x = calm().major(is).over(i%2 == 0).at(0, f)
				check(t, fmt.Sprint("Seek ", w.seek, ", and nothing is grey"), x.seek(w.seek), x.seek(w.then))
			}
		}
	}
	for _, epoch := range noEpochs {
		for _, w := range seeks {
			x := mixed().major(true)
			x.C.Epoch = epoch
			check(t, fmt.Sprint("Seek ", w.seek, ", Epoch ", epoch), x.seek(w.seek), x.seek(w.then))
		}
	}
}

// P16.1: of a heap without cells Seek is 0; where the first cell of all, or the only one, is grey, it is At from 1 on.
func TestSeekFewCells(t *testing.T) {
	for pages := range 3 {
		h, _ := heap.New(pages + 1)
		x := state{h, api.Col{Phase: api.Trace, Epoch: 1, Field: 4, Over: true}}
		for _, seek := range []int{1, 15, 16, 17, 32, -1, math.MinInt, math.MaxInt} {
			check(t, fmt.Sprint("no cells, Seek ", seek), x.seek(seek), x.seek(0))
		}
		x.H.Pages[pages] = api.Page{Kind: api.PageLarge, Arg: 1}
		a := 16 + 16*pages
		x = x.has(a, api.Head{N: 15, Mark: 1})
		for _, seek := range []int{1, a - 1, -1, math.MinInt} {
			check(t, fmt.Sprint("one cell, Seek ", seek), x.seek(seek), x.seek(a).at(a, 0))
		}
		for _, seek := range []int{a, a + 1, a + 15, a + 16, math.MaxInt} {
			check(t, fmt.Sprint("one cell, Seek ", seek), x.seek(seek), x.seek(0))
		}
	}
}

// P16.1: where nothing but Over is left it is Over no more, and Seek is 1; nothing else changes.
func TestAgain(t *testing.T) {
	for _, x := range []state{mixed(), calm()} {
		for _, f := range []int{0, 2, -1, math.MinInt, math.MaxInt} {
			for _, l := range [][]int{nil, {}} {
				x := x.at(0, f).work(l...)
				check(t, fmt.Sprint("Over, Field ", f), x.over(true), x.seek(1))
			}
		}
	}
}

// P16.1: where nothing is left the Phase is Sweep, At, Field, Seek and Card are 0, and Met is false, whatever they were; nothing else changes, also where something is grey, of which nobody knows.
func TestFinish(t *testing.T) {
	for _, x := range []state{mixed(), calm()} {
		for _, n := range append([]int{0, 1, 2, 5, 6, -1}, far...) {
			for _, epoch := range append([]int{0, 1, 5, 1 << 20}, noEpochs...) {
				for i, l := range [][]int{nil, {}} {
					x := x
					x.C = api.Col{Phase: api.Trace, Epoch: epoch, Major: n%2 == 0, Work: l, Field: n, Card: n + 1, Met: n%3 == 0}
					if i == 1 {
						x.C.Card = n
					}
					y := x
					y.C = api.Col{Phase: api.Sweep, Epoch: epoch, Major: n%2 == 0}
					check(t, fmt.Sprint("nothing, Field ", n, ", Epoch ", epoch), x, y)
					check(t, "in Sweep", y, y)
				}
			}
		}
	}
	x := calm().work([]int{16, 18}[:0]...)
	check(t, "Work with room behind its end", x, x.swept())
}

// P16.1: the order of them: with any of them so at once the first one that is so is what is done, by hand, and no other.
func TestOrder(t *testing.T) {
	for way := range 16 {
		x, first := mixed().leads(32, 1, 36), 4
		for i, add := range []func(){func() { x = x.over(true) }, func() { x = x.seek(46) }, func() { x = x.work(16, 80) }, func() { x = x.at(32, 1) }} {
			if way&(1<<i) != 0 {
				add()
				first = 3 - i
			}
		}
		want := x
		switch first {
		case 0:
			want = x.has(36, api.Head{N: 2, Born: 1, Mark: 5}).work(append(slices.Clone(x.C.Work), 36)...).at(32, 2)
		case 1:
			want = x.work(16).at(80, 0)
		case 2:
			want = x.seek(48).at(48, 0)
		case 3:
			want = x.over(false).seek(1)
		case 4:
			want = x.swept()
		}
		check(t, fmt.Sprint("with ", x.C), x, want)
		if first == 0 { // what is wrong there is ended first, too
			for _, y := range []state{x.at(17, 0), x.at(36, 1), x.at(32, 3), x.at(32, -1), x.at(-1, -1)} {
				check(t, fmt.Sprint("with ", y.C), y, y.at(0, 0))
			}
		}
		if first == 1 {
			check(t, "with 0 on Work", x.work(18, 0), x.work(18).at(0, 0))
		}
		if first == 2 {
			check(t, "with the last cell behind", x.seek(136), x.seek(0))
		}
	}
}

// P16.2: Over, by hand: each of what it asks for alone wanting, each two of them, and all; the others of the collector's parts are not asked for.
func TestOver(t *testing.T) {
	for _, phase := range append([]int{api.Trace}, others...) {
		x := calm()
		x.C.Phase = phase
		if !trace.Over(x.H, x.C) || !trace.Over(x.H, x.work([]int{}...).C) || !trace.Over(x.H, x.major(true).C) {
			t.Errorf("Phase %d: not over", phase)
		}
		x.C.Field, x.C.Card, x.C.Met = -phase, phase, false
		if !trace.Over(x.H, x.C) {
			t.Errorf("Phase %d: Field, Card, or Met is asked for", phase)
		}
		wanting := []func(y *state){
			func(y *state) { y.H = mixed().H },
			func(y *state) { y.C.Work = []int{20} },
			func(y *state) { y.C.Over = true },
			func(y *state) { y.C.At = 20 },
			func(y *state) { y.C.Seek = 1 },
		}
		for i := range wanting {
			for j := range wanting {
				y := clone(x)
				wanting[i](&y)
				wanting[j](&y)
				if trace.Over(y.H, y.C) {
					t.Errorf("Phase %d: over, with %d and %d wanting", phase, i, j)
				}
			}
		}
	}
}

// P16.2: whatever is on Work, at At, or Seek, it is not over; nor where one object alone is grey, whichever that is.
func TestNotOver(t *testing.T) {
	for _, n := range append([]int{1, 15, 16, 17, 18, 20, 136, 143, 144, -1, -16}, far...) {
		for i, x := range []state{calm().at(n, 0), calm().seek(n), calm().work(n), calm().work(n, n, n, n, n)} {
			if trace.Over(x.H, x.C) {
				t.Errorf("over: %d, %d", i, n)
			}
		}
	}
	for _, l := range works[2:] {
		if trace.Over(calm().H, calm().work(l...).C) {
			t.Errorf("over with %v on Work", l)
		}
	}
	for a, y := range heads() {
		y.Done, y.Mark = false, 5
		x := calm().has(a, y)
		if trace.Over(x.H, x.C) == !y.Old || trace.Over(x.H, x.major(true).C) {
			t.Errorf("over with %v at %d", y, a)
		}
	}
	for _, epoch := range noEpochs { // nothing is grey in these
		x := mixed()
		x.C.Epoch = epoch
		if !trace.Over(x.H, x.C) || trace.Over(x.H, x.seek(1).C) || trace.Over(x.H, x.work(0).C) {
			t.Errorf("Epoch %d: not over", epoch)
		}
	}
}

// chance hands out numbers below n, one behind the other, the same ones each time.
func chance() func(n int) int {
	seed := uint64(1)
	return func(n int) int {
		seed = seed*6364136223846793005 + 1442695040888963407
		return int((seed >> 33) % uint64(n))
	}
}

// somePages are so many pages that may be, of all kinds.
func somePages(next func(int) int, n int) []api.Page {
	var l []api.Page
	for len(l) < n {
		switch most := min(4, n-len(l)); next(6) {
		case 0:
			l = append(l, api.Page{})
		case 1:
			l = append(l, run(1+next(most))...)
		default:
			l = append(l, small(next(3)))
		}
	}
	return l
}

// someFields is how many fields an object may have whose cell begins at a.
func (x state) someFields(next func(int) int, a int) int {
	switch p := x.H.Pages[(a-16)/16]; {
	case p.Kind == api.PageLarge && p.Arg == 1:
		return 8 + next(8)
	case p.Kind == api.PageLarge:
		return 16*p.Arg - 16 + next(16)
	case p.Arg == 0:
		return 1
	case p.Arg == 1:
		return 2 + next(2)
	}
	return 4 + next(4)
}

// wild is a heap of so many pages, with objects of all colours, but of so many in ten white ones, whose fields lead to each other, to themselves, or nowhere. The collector is in Trace, in some cycle, with nothing to go through.
func wild(next func(int) int, pages, whites int) state {
	l := somePages(next, pages)
	x := state{api.Heap{W: make([]int, 16*pages), Pages: l, Cards: make([]bool, 2*pages)}, api.Col{Phase: api.Trace, Epoch: []int{1, 5, 5, 1 << 20}[next(4)], Major: next(2) == 0, Card: next(9), Met: next(2) == 0}}
	for _, a := range starts(l) {
		p := l[(a-16)/16]
		if p.Kind == api.PageSmall && next(6) == 0 {
			if next(2) == 0 {
				x.H.Free[p.Arg] = append(x.H.Free[p.Arg], a)
			}
			continue
		}
		y := api.Head{Used: true, N: x.someFields(next, a), Old: next(5) == 0, Done: next(2) == 0, Mark: x.C.Epoch}
		if next(10) < whites {
			y.Mark -= 1 + next(x.C.Epoch)
		}
		x.H.W[a-16] = word(y)
	}
	objects := x.objects()
	for _, a := range objects {
		for f := range x.head(a).N {
			to := 0
			switch {
			case next(7) == 0:
				to = noise(11)[next(11)]
			case next(7) > 0:
				to = objects[next(len(objects))]
			}
			x.H.W[a-16+1+f] = to
		}
	}
	return x
}

// known is a wild heap with a collector that knows of all that is grey: one object is at At, some are on Work, with what is not grey, perhaps; and of the others Over, or Seek, tells.
func known(next func(int) int, pages, whites int) state {
	x := wild(next, pages, whites)
	l := x.coloured(grey)
	for i := len(l) - 1; i > 0; i-- {
		j := next(i + 1)
		l[i], l[j] = l[j], l[i]
	}
	if len(l) > 0 && next(2) == 0 {
		x = x.at(l[0], next(x.head(l[0]).N))
		l = l[1:]
	}
	for n := next(5); n > 0 && len(l) > 0; n-- {
		x.C.Work = append(x.C.Work, l[0])
		l = l[1:]
	}
	if len(x.C.Work) < 4 && next(4) == 0 {
		x.C.Work = append(x.C.Work, []int{0, 16, 18, 17, -1, math.MaxInt}[next(6)])
	}
	if next(2) == 0 {
		x.C.Seek = 1 + next(16+16*pages)
	}
	for _, a := range l {
		if x.C.Seek == 0 || a <= x.C.Seek {
			x.C.Over = true
		}
	}
	if next(6) == 0 {
		x.C.Over = true
	}
	if x.C.Over || len(l) == 0 {
		return x
	}
	if next(3) == 0 {
		return x.seek(0).over(true)
	}
	return x.seek(slices.Min(l) - 1)
}

// P16.1, P16.2: a great many heaps and collectors of all kinds, held against a second reading of the chapter.
func TestSay(t *testing.T) {
	next := chance()
	pick := func(l []int) int { return l[next(len(l))] }
	for n := range 20000 {
		x := wild(next, 1+next(6), 5)
		objects := append(append(x.objects(), x.coloured(grey)...), 0, 16, 17, pick(nobody))
		if next(2) == 0 {
			a := pick(objects)
			x = x.at(a, next(8)-1)
			if x.colour(a) == grey {
				x.C.Field = next(x.head(a).N+3) - 1
			}
		} else if next(2) == 0 {
			x.C.Field = pick(far)
		}
		for range next(7) * next(2) {
			x.C.Work = append(x.C.Work, pick(objects))
		}
		if next(2) == 0 {
			x.C.Seek = next(20 + 16*len(x.H.Pages))
		}
		x.C.Over = next(2) == 0
		if next(20) == 0 {
			x.C.Epoch = pick(noEpochs)
		}
		if next(20) == 0 {
			x.C.Phase = pick(others)
		}
		if next(20) == 0 {
			x.H.W[next(len(x.H.W))] = pick(far)
		}
		check(t, fmt.Sprint("heap ", n), x, say(x))
		if got := trace.Over(x.H, x.C); got != sayOver(x) {
			t.Fatalf("heap %d: over: %t: %v", n, got, x)
		}
	}
}

// unknown is what is grey, and not known of.
func (x state) unknown() []int {
	return slices.DeleteFunc(x.coloured(grey), func(a int) bool {
		return x.C.At == a || slices.Contains(x.C.Work, a) || x.C.Over || x.C.Phase == api.Trace && x.C.Seek != 0 && a > x.C.Seek
	})
}

// reached is the heap in which all that is grey, and all that this leads to, through what is white, is black, and else all is as it is. Of what is at At the fields from Field on lead somewhere.
func (x state) reached() api.Heap {
	y := clone(x)
	for l := x.coloured(grey); len(l) > 0; l = l[1:] {
		from := 0
		if l[0] == x.C.At {
			from = x.C.Field
		}
		for f := from; f < y.head(l[0]).N; f++ {
			if to := y.H.W[l[0]-16+1+f]; y.colour(to) == white {
				y = y.shaded(to)
				l = append(l, to)
			}
		}
		y = y.black(l[0])
	}
	return y.H
}

// rounds is how many steps are enough: each object's fields, and all cells once for each object, and twice more, and what is on Work.
func (x state) rounds() int {
	return len(x.H.W) + (len(starts(x.H.Pages))+2)*(len(x.objects())+3) + len(x.C.Work)
}

// runs is x behind all steps to Sweep: behind each one all that is grey is known of, no colour is another one but by turning grey, or black, and no other word of the heap changes.
func (x state) runs(t *testing.T, name string) state {
	t.Helper()
	if l := x.unknown(); len(l) > 0 || !heap.May(x.H) {
		t.Fatalf("%s: not known of, from the beginning on: %v", name, l)
	}
	was, objects := x, x.objects()
	for steps := x.rounds(); x.C.Phase == api.Trace; steps-- {
		ahead := x
		if x = step(x); len(x.unknown()) > 0 {
			t.Fatalf("%s: behind %v there is what is grey, and not known of: %v: %v", name, ahead.C, x.C, x.unknown())
		}
		if steps == 0 {
			t.Fatalf("%s: no Sweep behind %d steps: %v", name, was.rounds(), x.C)
		}
		if len(x.C.Work) > max(4, len(was.C.Work)) || x.C.Epoch != was.C.Epoch || x.C.Major != was.C.Major {
			t.Fatalf("%s: behind %v: %v", name, ahead.C, x.C)
		}
		turned := 0
		for _, a := range objects {
			from, to := ahead.colour(a), x.colour(a)
			if from != to {
				turned++
			}
			if from != to && !(from == white && to == grey) && !(from == grey && to == black) {
				t.Fatalf("%s: behind %v the colour at %d is %d; it was %d", name, ahead.C, a, to, from)
			}
		}
		if turned > 2 {
			t.Fatalf("%s: behind %v %d objects have other colours", name, ahead.C, turned)
		}
	}
	if l := x.coloured(grey); len(l) > 0 || x.C.Phase != api.Sweep || !trace.Over(x.H, x.C) {
		t.Fatalf("%s: in Sweep grey are %v: %v", name, l, x.C)
	}
	check(t, name+", in Sweep", x, x)
	if want := (state{was.reached(), was.swept().work().over(false).C}); !same(x, want) {
		t.Fatalf("%s: from %v: in Sweep:\n got %v, %v\nwant %v, %v", name, was, x.C, x.H, want.C, want.H)
	}
	return x
}

// P16.3: from heaps and works of all kinds: all that is grey is known of behind each step; Sweep is reached, nothing is grey then, and all that what was grey leads to is black.
func TestToSweep(t *testing.T) {
	next := chance()
	for n := range 900 {
		pages := 1 + next(5)
		if n%100 == 0 {
			pages = 9
		}
		known(next, pages, 3+next(7)).runs(t, fmt.Sprint("heap ", n))
	}
}

// plain is a heap of pages, each cell of which is an object, white in the cycle 3, of as many fields as there can be, which have nothing.
func plain(l []api.Page) state {
	x := state{api.Heap{W: make([]int, 16*len(l)), Pages: l, Cards: make([]bool, 2*len(l))}, api.Col{Phase: api.Trace, Epoch: 3}}
	for _, a := range starts(l) {
		n := []int{1, 3, 7}[l[(a-16)/16].Arg%3]
		if p := l[(a-16)/16]; p.Kind == api.PageLarge {
			n = 16*p.Arg - 1
		}
		x.H.W[a-16] = word(api.Head{Used: true, N: n, Mark: 2})
	}
	return x
}

// chain is x with each of some objects leading to the next one, by a field.
func (x state) chain(f int, l ...int) state {
	for i, a := range l[1:] {
		x = x.leads(l[i], f, a)
	}
	return x
}

// P16.3: by hand: objects that lead to each other in a row, upwards and downwards, in a ring, and to themselves; from one of them all are black, in so many steps as there are fields and objects, as one behind the other is on Work, and one more leads to Sweep.
func TestRows(t *testing.T) {
	pages := []api.Page{small(1), small(1), small(1)}
	up := starts(pages)
	down := slices.Clone(up)
	slices.Reverse(down)
	ring := append(slices.Clone(up), up[0])
	for name, x := range map[string]state{
		"upwards": plain(pages).chain(2, up...).shaded(up[0]), "downwards": plain(pages).chain(0, down...).shaded(down[0]), "a ring": plain(pages).chain(1, ring...).shaded(up[0]),
		"a ring, and themselves": plain(pages).chain(1, ring...).chain(0, 16, 16).chain(0, 40, 40).chain(2, 60, 60).shaded(down[0]), "a ring, both ways": plain(pages).chain(1, ring...).chain(2, down...).shaded(up[4]),
	} {
		y := x
		for range 12 * 4 {
			y = step(y)
		}
		if y.C.Phase != api.Trace || len(y.coloured(black)) != 12 || !trace.Over(y.H, y.C) || step(y).C.Phase != api.Sweep {
			t.Errorf("%s: %v, black are %v", name, y.C, y.coloured(black))
		}
		x.runs(t, name)
	}
	alone := plain(pages).chain(0, 24, 24).chain(1, 24, 24).chain(2, 24, 24).shaded(24)
	if y := alone.runs(t, "itself"); !slices.Equal(y.coloured(black), []int{24}) {
		t.Errorf("itself: black are %v", y.coloured(black))
	}
	if y := plain(pages).runs(t, "nothing"); len(y.coloured(white)) != 12 {
		t.Errorf("nothing: white are %v", y.coloured(white))
	}
}

// P16.3: through what is left out, and through what is black, nothing is reached.
func TestNotThrough(t *testing.T) {
	x := plain([]api.Page{small(1), small(0), small(2)}).leads(16, 0, 20).leads(16, 1, 24).leads(20, 2, 28).leads(24, 0, 32).leads(16, 2, 34).leads(34, 0, 48)
	x = x.has(20, api.Head{N: 3, Old: true, Mark: 2}).has(24, api.Head{N: 3, Mark: 3, Done: true}).shaded(16)
	if y := x.runs(t, "minor"); !slices.Equal(y.coloured(black), []int{16, 24, 34, 48}) || !slices.Equal(y.coloured(leftOut), []int{20}) || y.colour(28) != white || y.colour(32) != white {
		t.Errorf("minor: black are %v", y.coloured(black))
	}
	if y := x.major(true).runs(t, "major"); !slices.Equal(y.coloured(black), []int{16, 20, 24, 28, 34, 48}) || y.colour(32) != white {
		t.Errorf("major: black are %v", y.coloured(black))
	}
}

// P16.3: where the work list is full what has no room is found by its cell, by hand: an object of seven fields that lead to seven others, the first four of which are on Work.
func TestFull(t *testing.T) {
	x := plain([]api.Page{small(0), small(2)}).shaded(40)
	for f := range 7 {
		x = x.leads(40, f, 16+2*f)
	}
	for range 8 {
		x = step(x)
	}
	if !slices.Equal(x.C.Work, []int{16, 18, 20, 22}) || !x.C.Over || x.C.At != 0 || !slices.Equal(x.coloured(grey), []int{16, 18, 20, 22, 24, 26, 28}) {
		t.Fatalf("behind the object: %v, grey are %v", x.C, x.coloured(grey))
	}
	for range 8 {
		x = step(x)
	}
	if len(x.C.Work) != 0 || !x.C.Over || x.C.Seek != 0 || !slices.Equal(x.coloured(grey), []int{24, 26, 28}) {
		t.Fatalf("behind Work: %v, grey are %v", x.C, x.coloured(grey))
	}
	if x = step(x); x.C.Over || x.C.Seek != 1 {
		t.Fatalf("behind Over: %v", x.C)
	}
	for i, w := range []struct{ at, seek int }{ // each cell, and the field of each that is grey
		{0, 16}, {0, 18}, {0, 20}, {0, 22}, {24, 24}, {0, 24}, {26, 26}, {0, 26}, {28, 28}, {0, 28}, {0, 30}, {0, 32}, {0, 40}, {0, 0},
	} {
		if x = step(x); x.C.At != w.at || x.C.Seek != w.seek || x.C.Phase != api.Trace {
			t.Fatalf("cell by cell, %d: %v", i, x.C)
		}
	}
	if x = step(x); x.C.Phase != api.Sweep || !slices.Equal(x.coloured(white), []int{30, 32}) || len(x.coloured(black)) != 8 {
		t.Errorf("at the end: %v, white are %v", x.C, x.coloured(white))
	}
}

// P16.3: where the work list is full again and again: a tree whose objects lead to seven others each, upwards and downwards, all known of by Over alone, by Seek alone, or from its root.
func TestTrees(t *testing.T) {
	pages := slices.Repeat([]api.Page{small(2)}, 12)
	l := starts(pages)
	for name, order := range map[string]func(i int) int{"upwards": func(i int) int { return l[i] }, "downwards": func(i int) int { return l[len(l)-1-i] }, "mixed": func(i int) int { return l[i*7%len(l)] }} {
		x := plain(pages)
		for i := range l {
			for f := range 7 {
				if 7*i+f+1 < len(l) {
					x = x.leads(order(i), f, order(7*i+f+1))
				}
			}
		}
		root := x.shaded(order(0))
		for as, y := range map[string]state{"Work": root, "Over": root.work().over(true), "Seek": root.work().seek(order(0) - 1), "At": root.work().at(order(0), 0)} {
			if y = y.runs(t, name+", by "+as); len(y.coloured(black)) != len(l) {
				t.Errorf("%s, by %s: black are %v", name, as, y.coloured(black))
			}
		}
	}
}

// P16.3: the greatest heaps: of 64 pages all objects are grey, and Over alone tells of them; or a large one leads to many small ones, and each of these to the one ahead.
func TestGreatest(t *testing.T) {
	finish := func(x state) state {
		steps := 0
		for bound := x.rounds(); x.C.Phase == api.Trace && steps < bound; steps++ {
			x = step(x)
		}
		return x
	}
	x := plain(slices.Concat(run(4), slices.Repeat([]api.Page{small(1)}, 60)))
	for i, a := range starts(x.H.Pages)[1:] {
		if i < 63 {
			x = x.leads(16, i, a+60)
		}
		if a > 80 {
			x = x.leads(a, 0, a-4)
		}
	}
	if y := finish(x.shaded(16)); y.C.Phase != api.Sweep || len(y.coloured(black)) != 79 || len(y.coloured(grey)) != 0 {
		t.Errorf("a large one: %v, black are %v", y.C, y.coloured(black))
	}
	x = plain(slices.Repeat([]api.Page{small(1)}, 64)).over(true)
	for i, a := range starts(x.H.Pages) {
		x.H.W[a-16] = word(api.Head{Used: true, N: 2 + i%2, Mark: 3})
	}
	if y := finish(x); y.C.Phase != api.Sweep || len(y.coloured(black)) != 256 {
		t.Errorf("all grey: %v, black are %v", y.C, y.coloured(black))
	}
}

// village is a heap, the collector, and threads that are picked in whatever order.
type village struct {
	state
	l []api.Thread
}

// program are so many operations, most of which can be done, and none of which ends the thread but the last one.
func program(next func(int) int, n int) []api.Op {
	var l []api.Op
	for range n {
		op := api.Op{Kind: []int{0, 0, 0, 1, 1, 1, 2, 2, 2, 2, 3, 5}[next(12)], A: next(4), B: next(4), C: next(4)}
		switch op.Kind {
		case api.New:
			op.B = []int{1, 1, 2, 3, 3, 5, 7, 9, 20}[next(9)]
		case api.Load:
			op.C = next(2)
		case api.Store:
			op.B = next(2)
		}
		l = append(l, op)
	}
	return append(l, api.Op{Kind: api.Exit})
}

// pick picks the thread i: it answers, if it is asked, or begins, if it does not live, or takes a step.
func (v *village) pick(i int) {
	switch x := v.l[i]; {
	case hand.Asked(v.C, x):
		v.H, v.C, v.l[i] = hand.Answer(v.H, v.C, x)
	case !x.Live && len(x.Do) > 0:
		v.l[i] = hand.Begin(v.C, x, v.l...)
	default:
		v.H, v.C, v.l[i], _, _ = mutate.Step(v.H, v.C, x)
	}
}

// goOn is a step of the collector, in cycles that are major ones; all that is white is freed at once in Sweep. It tells how many objects were.
func (v *village) goOn(t *testing.T) int {
	t.Helper()
	switch {
	case v.C.Phase == api.Idle:
		v.C = api.Col{Phase: api.Arm, Epoch: v.C.Epoch + 1, Major: true}
	case v.C.Phase == api.Trace:
		want := say(v.state)
		if v.state = step(v.state); !same(v.state, want) {
			t.Fatalf("behind a step of the collector: %v; want %v", v.state, want)
		}
	case v.C.Phase == api.Sweep:
		return v.free(t)
	case hand.All(v.C, v.l...):
		v.C.Phase = map[int]int{api.Arm: api.Settle, api.Settle: api.Roots, api.Roots: api.Trace}[v.C.Phase]
	}
	return 0
}

// free frees all that is white, where nothing is grey, and nothing that a thread reaches is white.
func (v *village) free(t *testing.T) int {
	t.Helper()
	if l := v.coloured(grey); len(l) > 0 {
		t.Fatalf("grey are %v in Sweep: %v", l, v.C)
	}
	l := v.coloured(white)
	for _, a := range v.held() {
		if slices.Contains(l, a) {
			t.Fatalf("at %d there is what is white, and reached: %v, %v", a, v.C, v.l)
		}
	}
	for _, a := range l {
		v.H, _ = reap.Free(v.H, a)
	}
	v.C.Phase = api.Idle
	return len(l)
}

// held is all that threads that live hold, and all that these lead to.
func (v *village) held() []int {
	var l []int
	for _, x := range v.l {
		if x.Live {
			l = append(l, regs.Holds(x)...)
		}
	}
	for i := 0; i < len(l); i++ {
		if y, e := heap.Head(v.H, l[i]); e == api.OK {
			for f := range y.N {
				if a := v.H.W[l[i]-16+1+f]; a != 0 && !slices.Contains(l, a) {
					l = append(l, a)
				}
			}
		}
	}
	return l
}

// P16.3: three threads, picked in whatever order, that make objects, store and load, and let go, while the collector goes through what is grey: behind each step all that is grey is known of, and the heap is whole; in Sweep nothing is grey, and what is white is reached by none: what is held is an object always.
func TestThreads(t *testing.T) {
	next := chance()
	for _, pages := range []int{1, 2, 4, 9, 20} {
		h, _ := heap.New(pages)
		v := village{state{H: h}, make([]api.Thread, 3)}
		freed := 0
		for n := range 2500 {
			for i := range v.l {
				if !v.l[i].Live && len(v.l[i].Do) == 0 {
					v.l[i].Do = program(next, 60)
				}
			}
			v.pick(next(3))
			for range next(4) {
				freed += v.goOn(t)
			}
			if l := v.unknown(); v.C.Phase != api.Idle && len(l) > 0 {
				t.Fatalf("%d pages, %d: grey, and not known of: %v: %v", pages, n, l, v.C)
			}
			if !heap.Whole(v.H, v.l[0].Cache, v.l[1].Cache, v.l[2].Cache) {
				t.Fatalf("%d pages, %d: not whole: %v", pages, n, v.H)
			}
			for _, a := range v.held() {
				if _, e := heap.Head(v.H, a); e != api.OK {
					t.Fatalf("%d pages, %d: at %d there is no object, and it is reached: %v, %v", pages, n, a, v.C, v.l)
				}
			}
		}
		if v.C.Epoch < 8 || freed < 40 {
			t.Errorf("%d pages: too few cycles, or objects freed: %d, %d", pages, v.C.Epoch, freed)
		}
	}
}

// R1: numbers of all kinds, everywhere: nothing panics, and where the heap may not be, or the phase is another one, all stays.
func TestAnything(t *testing.T) {
	next := chance()
	numbers := append([]int{0, 0, 1, 2, 3, 5, 16, 17, 18, 32, 48, 136, 144, -1}, far...)
	some := func(n int) []int {
		var l []int
		for range next(n) {
			l = append(l, numbers[next(len(numbers))])
		}
		return l
	}
	for range 20000 {
		x := mixed()
		pick := func(was int) int {
			if next(3) > 0 {
				return was
			}
			return numbers[next(len(numbers))]
		}
		x.C = api.Col{Phase: pick(api.Trace), Epoch: pick(5), Major: next(2) == 0, Work: some(7), Over: next(2) == 0, At: pick(18), Field: pick(0), Seek: pick(0), Card: pick(0), Met: next(2) == 0}
		switch next(6) {
		case 0:
			x.H = api.Heap{W: some(40), Pages: make([]api.Page, next(4)), Free: api.Lists{some(3), some(3), some(3)}, Cards: make([]bool, next(9))}
		case 1:
			x.H.W[next(128)] = pick(9)
		case 2:
			x.H.Pages[next(8)] = api.Page{Kind: pick(1), Arg: pick(1)}
		case 3:
			x.H.Free[next(3)] = some(4)
		}
		check(t, "anything", x, say(x))
		if got := trace.Over(x.H, x.C); got != sayOver(x) {
			t.Fatalf("over: %t: %v", got, x)
		}
	}
}

// told is what a call tells: those of its parts that the call has.
type told struct {
	H  api.Heap
	C  api.Col
	Ok bool
}

// calls are all of the package's.
var calls = []struct {
	name string
	ask  func(x state) told
}{
	{"Step", func(x state) told {
		h, c := trace.Step(x.H, x.C)
		return told{H: h, C: c}
	}},
	{"Over", func(x state) told { return told{Ok: trace.Over(x.H, x.C)} }},
}

// all are things of all kinds that calls are handed: steps of each kind, and none; with Work of all lengths.
func all() []state {
	l := []state{{}, calm(), calm().over(true)}
	for _, x := range busy() {
		l = append(l, x, x.major(true))
		x.C.Phase = api.Scan
		l = append(l, x)
		x.H, x.C.Phase = wrongHeaps()["a card more"], api.Trace
		l = append(l, x)
	}
	for _, work := range works {
		for _, a := range []int{56, 20} {
			x := mixed().work(work...)
			l = append(l, x, x.leads(48, 3, a).at(48, 3), x.leads(48, 6, a).at(48, 6), x.seek(16), x.seek(20), x.over(true))
		}
	}
	return l
}

// R3: what is handed in stays as it was, also behind its lists' ends, and what stands there changes no answer.
func TestHandedIn(t *testing.T) {
	for i, x := range all() {
		for _, f := range calls {
			own, kept := roomy(x)
			if got, want := f.ask(own), f.ask(x); !same(got, want) {
				t.Fatalf("%d: %s of one with room behind its lists: %v; want %v", i, f.name, got, want)
			}
			if !kept() {
				t.Fatalf("%d: %s: what was handed in is another one", i, f.name)
			}
		}
	}
}

// R3: what is answered is the caller's own, also where all stays: written over, with the room behind its lists' ends, it changes nothing of what was handed in, nor of another answer; nor the other way round.
func TestAnsweredOwn(t *testing.T) {
	for i, x := range all() {
		for _, f := range calls {
			own, kept := roomy(x)
			first, second := f.ask(own), f.ask(own)
			want := clone(second)
			spoil(first)
			if !kept() || !same(second, want) {
				t.Fatalf("%d: what %s answered is shared", i, f.name)
			}
			spoil(own)
			if !same(second, want) {
				t.Fatalf("%d: what %s was handed is shared", i, f.name)
			}
		}
	}
}

// R3: no two lists of one answer share memory, also where those that were handed in do: each of them written over, with the room behind its end, changes none but itself.
func TestAnswersApart(t *testing.T) {
	on := []int{28, 30, 44, 48, 18}
	was := slices.Clone(on)
	for i, x := range all() {
		x.H.Free, x.C.Work = api.Lists{on[:2], on[2:3], nil}, on[3:5] // one behind the other
		for _, f := range calls {
			want := clone(f.ask(x))
			for n := range lists(reflect.ValueOf(want)) {
				got, sole := f.ask(x), clone(want)
				ruinList(lists(reflect.ValueOf(got))[n])
				ruinList(lists(reflect.ValueOf(sole))[n])
				if !same(got, sole) {
					t.Fatalf("%d: %s: with the list %d another one changed: %v", i, f.name, n, got)
				}
			}
		}
		if !slices.Equal(on, was) {
			t.Fatalf("%d: what was handed in is %v", i, on)
		}
	}
}

// R5: what is asked again is answered alike, whatever was asked between.
func TestAskedAgain(t *testing.T) {
	l := all()
	want := map[string][]told{}
	for _, f := range calls {
		for _, x := range l {
			want[f.name] = append(want[f.name], f.ask(x))
		}
	}
	for i, x := range slices.Backward(l) {
		for _, f := range calls {
			if got := f.ask(x); !same(got, want[f.name][i]) {
				t.Fatalf("%d: %s: %v; want %v", i, f.name, got, want[f.name][i])
			}
		}
	}
}

// R1, P16.2: nothing at all, and zero values. Of no heap nothing is grey: a zero collector is over.
func TestNothing(t *testing.T) {
	check(t, "zero", state{}, state{})
	check(t, "Trace, of no heap", state{C: api.Col{Phase: api.Trace, At: 16, Field: 1, Seek: 2, Over: true}}, state{C: api.Col{Phase: api.Trace, At: 16, Field: 1, Seek: 2, Over: true}})
	if !trace.Over(api.Heap{}, api.Col{}) || trace.Over(api.Heap{}, api.Col{Over: true}) {
		t.Error("over, of no heap")
	}
}

// The chapter's example.
func TestExample(t *testing.T) {
	h, _ := heap.New(1)
	x := step(state{h, api.Col{Phase: api.Trace, Epoch: 1, Major: true}})
	if !same(x, state{h, api.Col{Phase: api.Sweep, Epoch: 1, Major: true}}) {
		t.Errorf("%v", x)
	}
}
