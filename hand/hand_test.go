package hand_test

import (
	"fmt"
	"math"
	"reflect"
	"slices"
	"testing"

	"ragpicker/api"
	"ragpicker/cells"
	"ragpicker/hand"
	"ragpicker/heap"
	"ragpicker/mutate"
	"ragpicker/regs"
	"ragpicker/shade"
)

// far are numbers so far off that they would be right, if fewer bits of them were looked at, or a sum of them wraps.
var far = []int{
	math.MinInt, math.MinInt + 1, math.MinInt + 3, math.MinInt32, -1 << 32, -1<<32 + 2, -1<<16 + 1, -256, -255, -253,
	1 << 8, 1<<8 + 1, 1<<8 + 2, 1<<8 + 3, 1 << 16, 1<<16 + 2, 1 << 32, 1<<32 + 1, 1<<32 + 2, 1<<32 + 3, 1 << 62, math.MaxInt - 3, math.MaxInt,
}

// noPhases are numbers of phases that there are not.
var noPhases = append([]int{-1, -2, -7, api.Phases, 8, 9, 13}, far...)

// later are the phases in which registers are shaded: Roots, those behind it, and such as there are not.
var later = append([]int{api.Roots, api.Scan, api.Trace, api.Sweep}, noPhases...)

// phases are all there are, and such as there are not.
var phases = append([]int{api.Idle, api.Arm, api.Settle}, later...)

// epochs are numbers of cycles: such as may be, such as may not, and such as are the same but for some bits.
var epochs = []int{0, 1, 2, 5, 1<<20 - 1, 1 << 20, 1<<20 + 1, -1, 1 << 32, 1<<32 + 5, 1<<8 + 1, math.MinInt, math.MaxInt}

// copied is v with memory of its own, and room for so many more behind each list's end, which look like something.
func copied(v reflect.Value, more int) reflect.Value {
	own := reflect.New(v.Type()).Elem()
	own.Set(v)
	switch v.Kind() {
	case reflect.Struct:
		for i := range v.NumField() {
			own.Field(i).Set(copied(v.Field(i), more))
		}
	case reflect.Array:
		for i := range v.Len() {
			own.Index(i).Set(copied(v.Index(i), more))
		}
	case reflect.Slice:
		if v.IsNil() && more == 0 {
			return own
		}
		own.Set(reflect.MakeSlice(v.Type(), v.Len()+more, v.Len()+more))
		for i := range v.Len() {
			own.Index(i).Set(copied(v.Index(i), more))
		}
		for i := v.Len(); i < own.Len(); i++ {
			ruin(own.Index(i))
		}
		own.SetLen(v.Len())
	}
	return own
}

// clone is x with memory of its own.
func clone[T any](x T) T { return copied(reflect.ValueOf(x), 0).Interface().(T) }

// ruin writes over a number, a bool, or what is made of these; lists stay. A number is another one then, also behind a second time.
func ruin(v reflect.Value) {
	switch v.Kind() {
	case reflect.Int:
		v.SetInt(3*v.Int() - 77)
	case reflect.Bool:
		v.SetBool(!v.Bool())
	case reflect.Struct:
		for i := range v.NumField() {
			ruin(v.Field(i))
		}
	case reflect.Array:
		for i := range v.Len() {
			ruin(v.Index(i))
		}
	}
}

// lists are all lists that a value has, also in elements of lists, each as long as there is room for.
func lists(v reflect.Value) []reflect.Value {
	var all []reflect.Value
	switch v.Kind() {
	case reflect.Struct:
		for i := range v.NumField() {
			all = append(all, lists(v.Field(i))...)
		}
	case reflect.Slice:
		v = v.Slice(0, v.Cap())
		all = append(all, v)
		fallthrough
	case reflect.Array:
		for i := range v.Len() {
			all = append(all, lists(v.Index(i))...)
		}
	}
	return all
}

// ruinList writes over a list.
func ruinList(l reflect.Value) {
	for i := range l.Len() {
		ruin(l.Index(i))
	}
}

// spoil writes over all lists of x, and over the room behind their ends.
func spoil[T any](x T) {
	for _, l := range lists(reflect.ValueOf(x)) {
		ruinList(l)
	}
}

// alike tells whether two values are the same, but that lists without elements may be nil or empty (R6).
func alike(v, u reflect.Value) bool {
	switch v.Kind() {
	case reflect.Struct:
		for i := range v.NumField() {
			if !alike(v.Field(i), u.Field(i)) {
				return false
			}
		}
		return true
	case reflect.Array, reflect.Slice:
		if v.Len() != u.Len() {
			return false
		}
		for i := range v.Len() {
			if !alike(v.Index(i), u.Index(i)) {
				return false
			}
		}
		return true
	}
	return v.Equal(u)
}

func same[T any](x, y T) bool { return alike(reflect.ValueOf(x), reflect.ValueOf(y)) }

// roomy is x with memory of its own, and room behind each list's end; and a function that tells whether all of it, with that room, is as it was.
func roomy[T any](x T) (T, func() bool) {
	own := copied(reflect.ValueOf(x), 3)
	all := lists(own)
	var was []reflect.Value
	for _, l := range all {
		was = append(was, copied(l, 0))
	}
	return own.Interface().(T), func() bool {
		for i, l := range all {
			if !alike(l, was[i]) {
				return false
			}
		}
		return true
	}
}

// state is what an answer is given, and what all is behind it.
type state struct {
	H api.Heap
	C api.Col
	T api.Thread
}

func answer(x state) state {
	h, c, t := hand.Answer(x.H, x.C, x.T)
	return state{h, c, t}
}

// in is x with the collector in a phase, and the thread with an Epoch, and a Stage.
func (x state) in(phase, epoch, stage int) state {
	x.C.Phase, x.T.Epoch, x.T.Stage = phase, epoch, stage
	return x
}

// has is x with an address in a register, which is the next one.
func (x state) has(r, a int) state {
	x.T.R[r], x.T.Root = a, r
	return x
}

// onto is x with the thread at a Stage and a Root, of the collector's Epoch.
func (x state) onto(stage, root int) state {
	x.T.Epoch, x.T.Stage, x.T.Root = x.C.Epoch, stage, root
	return x
}

// check holds what x answers against what is wanted.
func check(t *testing.T, name string, x, want state) {
	t.Helper()
	if got := answer(x); !same(got, want) {
		t.Fatalf("%s: %v, %v:\n got %v, %v, %v\nwant %v, %v, %v", name, x.C, x.T, got.C, got.T, got.H, want.C, want.T, want.H)
	}
}

// headWord is a head's word, as chapter 1 says it.
func headWord(x api.Head) int {
	w := 0
	for i, is := range []bool{x.Used, x.Old, x.Done} {
		if is {
			w += 1 << i
		}
	}
	return w + 8*x.N + 1024*x.Born + 4294967296*x.Mark
}

// noise are so many words, that look like heads, or like addresses, or are nothing at all.
func noise(n int) []int {
	var l []int
	for i := range n {
		l = append(l, []int{36, 0, 65, headWord(api.Head{Used: true, N: 3, Mark: 4}), -1, 18, 1 << 40, headWord(api.Head{Used: true, N: 15}), math.MinInt, 16, 2}[i%11])
	}
	return l
}

// heads are those of the heap at hand, but for Used, by where their objects begin. In the cycle 5 those at 16, 36 and 64 are white, and those at 32 and 80 in a major one; that at 18 is grey, and that at 40 in a major one; those at 22 and 48 are black, or left out.
func heads() map[int]api.Head {
	return map[int]api.Head{
		16: {N: 1, Mark: 4},
		18: {N: 1, Mark: 5},
		22: {N: 1, Mark: 5, Done: true, Born: 5},
		32: {N: 2, Old: true},
		36: {N: 3, Mark: 1, Born: 2},
		40: {N: 3, Old: true, Mark: 5},
		48: {N: 4, Old: true, Done: true, Mark: 5},
		64: {N: 15, Done: true},
		80: {N: 20, Old: true, Mark: 3},
	}
}

// colours are what a register may have, and whether it is white in the cycle 5, and in one that is a major one.
var colours = []struct {
	a            int
	minor, major bool
}{
	{0, false, false}, {16, true, true}, {18, false, false}, {22, false, false}, {32, false, true}, {36, true, true}, {40, false, false}, {48, false, false}, {64, true, true}, {80, false, true},
	{17, false, false}, {37, false, false}, {65, false, false}, {81, false, false}, {96, false, false}, {24, false, false}, {28, false, false}, {44, false, false}, {56, false, false}, {112, false, false},
	{15, false, false}, {1, false, false}, {-1, false, false}, {-16, false, false}, {160, false, false}, {1 << 32, false, false}, {1<<32 + 16, false, false}, {1<<8 + 16, false, false}, {math.MinInt, false, false}, {math.MinInt + 16, false, false}, {math.MaxInt, false, false},
}

// small and run are pages: one of small cells, and all that a large object has.
func small(class int) api.Page { return api.Page{Kind: api.PageSmall, Arg: class} }

func run(n int) []api.Page {
	return append([]api.Page{{Kind: api.PageLarge, Arg: n}}, slices.Repeat([]api.Page{{Kind: api.PageRest}}, n-1)...)
}

// mixed is a heap of all kinds of pages, side by side, with objects of each class, and large ones, of every colour; words that nobody asks about look like something. Some cells that are free are on Free, some in the cache of the thread at hand, which knows of the cycle, is to go on to shade, and has something everywhere.
func mixed() state {
	l := slices.Concat([]api.Page{small(0), small(1), small(2)}, run(1), run(2), make([]api.Page, 3))
	h := api.Heap{W: noise(16 * len(l)), Pages: l, Free: api.Lists{{26, 24}, nil, {56}}, Cards: make([]bool, 2*len(l))}
	for _, a := range cells.All(l) {
		h.W[a-16] = 0
	}
	for a, x := range heads() {
		x.Used = true
		h.W[a-16] = headWord(x)
	}
	h.Cards[0], h.Cards[9] = true, true
	c := api.Col{Phase: api.Roots, Epoch: 5, Work: []int{18}, At: 48, Field: 1, Seek: 32, Card: 3, Met: true}
	return state{h, c, api.Thread{
		Live: true, R: [4]int{36, 16, 80, 64}, Cache: api.Lists{{30, 28}, {44}, nil}, Epoch: 5, Stage: 2,
		Do: []api.Op{{Kind: api.Store, A: 1, B: 2, C: 3}, {Kind: api.Exit}}, X: 64, Y: 16,
	}}
}

// grey is x with the object at a grey, in the cycle 5, and known of, as chapter 11 says it.
func (x state) grey(a int) state {
	x = clone(x)
	head := heads()[a]
	head.Used, head.Mark, head.Done = true, 5, false
	x.H.W[a-16] = headWord(head)
	if len(x.C.Work) < 4 {
		x.C.Work = append(x.C.Work, a)
	} else {
		x.C.Over = true
	}
	return x
}

// The heap at hand is such as the tests mean, and so are the colours.
func TestAtHand(t *testing.T) {
	x := mixed()
	if used := heap.Used(x.H); !heap.May(x.H, x.T.Cache) || len(used) != len(heads()) || !regs.May(x.T) {
		t.Errorf("objects at %v", used)
	}
	for _, one := range colours {
		minor := shade.White(x.H, x.C, one.a)
		x.C.Major = true
		if minor != one.minor || shade.White(x.H, x.C, one.a) != one.major {
			t.Errorf("another colour: %v", one)
		}
		x.C.Major = false
	}
}

// ops are so many operations.
func ops(n int) []api.Op {
	var l []api.Op
	for i := range n {
		l = append(l, api.Op{Kind: i % api.Ops, A: i % 4, B: i, C: -i})
	}
	return l
}

// sayMay says again what chapter 12 says of threads that may be.
func sayMay(x api.Thread) bool {
	four := []int{0, 1, 2, 3}
	n := len(x.Do)
	return slices.Contains(four, x.Stage) && slices.Contains(four, x.Root) && n < 201 && (x.Pc == 0 || n > 0 && slices.Contains([]int{1, 2, 3, 4}, x.Pc))
}

// sayAnswered says again which threads have answered.
func sayAnswered(c api.Col, x api.Thread) bool {
	if c.Phase == 0 {
		return true
	}
	if x.Epoch != c.Epoch {
		return false
	}
	return c.Phase == 1 || c.Phase == 2 && x.Stage > 1 || x.Stage == 3
}

// sayAsked says again which threads are asked.
func sayAsked(c api.Col, x api.Thread) bool {
	return x.Live && sayMay(x) && x.Pc == 0 && !sayAnswered(c, x)
}

// say says again what the chapter says of Answer; chapter 11 says what is shaded.
func say(x state) state {
	if !sayAsked(x.C, x.T) {
		return x
	}
	if x.T.Epoch != x.C.Epoch || x.C.Phase == 1 {
		return x.onto(1, 0)
	}
	if x.C.Phase == 2 {
		return x.onto(2, x.T.Root)
	}
	h, c := shade.Shade(x.H, x.C, x.T.R[x.T.Root])
	if x.T.Root == 3 {
		return state{h, c, x.T}.onto(3, 0)
	}
	return state{h, c, x.T}.onto(x.T.Stage, x.T.Root+1)
}

// sayBegin says again what the chapter says of Begin.
func sayBegin(c api.Col, x api.Thread, l []api.Thread) api.Thread {
	y := api.Thread{Live: true, Cache: x.Cache, Do: x.Do, Epoch: c.Epoch, Stage: 3}
	switch c.Phase {
	case 0:
		y.Epoch, y.Stage = 0, 0
	case 1:
		y.Stage = 1
	case 2:
		y.Stage = 2
	}
	for _, z := range l {
		if z.Live {
			y.R[0], y.Epoch, y.Stage = z.R[0], z.Epoch, z.Stage
			break
		}
	}
	return y
}

// P15.1: who has answered, by hand: phase by phase, of each Stage, with the collector's Epoch, and one below and above it.
func TestAnsweredByHand(t *testing.T) {
	for _, w := range []struct {
		phase      int
		own, other string // of the Stages 0 to 3: y, where such a thread has answered
	}{
		{api.Idle, "yyyy", "yyyy"}, {api.Arm, "yyyy", "nnnn"}, {api.Settle, "nnyy", "nnnn"},
		{api.Roots, "nnny", "nnnn"}, {api.Scan, "nnny", "nnnn"}, {api.Trace, "nnny", "nnnn"}, {api.Sweep, "nnny", "nnnn"},
		{-1, "nnny", "nnnn"}, {api.Phases, "nnny", "nnnn"}, {math.MinInt, "nnny", "nnnn"}, {math.MaxInt, "nnny", "nnnn"}, {1 << 32, "nnny", "nnnn"}, {1<<32 + 2, "nnny", "nnnn"}, {-255, "nnny", "nnnn"},
	} {
		for stage := range 4 {
			for epoch, answered := range map[int]bool{6: w.other[stage] == 'y', 7: w.own[stage] == 'y', 8: w.other[stage] == 'y'} {
				c, x := api.Col{Phase: w.phase, Epoch: 7}, api.Thread{Live: true, Epoch: epoch, Stage: stage}
				if hand.Asked(c, x) == answered || hand.All(c, x) != answered {
					t.Errorf("Phase %d, Epoch %d, Stage %d: asked %t, all %t", w.phase, epoch, stage, hand.Asked(c, x), hand.All(c, x))
				}
			}
		}
	}
}

// P15.1: Asked and All of each Phase, each two Epochs, and Stages of all kinds, with all else as it likes.
func TestAnswered(t *testing.T) {
	stages := append([]int{-1, 0, 1, 2, 3, 4, 5, 7}, far...)
	n := 0
	for _, phase := range phases {
		for _, epoch := range epochs {
			for _, own := range epochs {
				for _, stage := range stages {
					n++
					c := api.Col{Phase: phase, Epoch: epoch, Major: n%2 == 0, Work: []int{16, 18, 20, 22, 24}[:n%6], Over: n%3 == 0, At: n % 5, Seek: n % 7, Card: -n, Met: n%5 == 0}
					x := api.Thread{Live: n%11 != 0, R: [4]int{n, 0, -n}, Epoch: own, Stage: stage, Root: n % 4, Do: ops(n % 4), X: n % 3, Y: n % 2}
					if got, want := hand.Asked(c, x), sayAsked(c, x); got != want {
						t.Fatalf("%v of %v: asked %t", x, c, got)
					}
					if got, want := hand.All(c, x), !x.Live || sayAnswered(c, x); got != want {
						t.Fatalf("%v of %v: all %t", x, c, got)
					}
				}
			}
		}
	}
}

// unanswered are threads that have not answered, in each phase but Idle.
func unanswered() []state {
	l := []state{mixed().in(api.Arm, 4, 3), mixed().in(api.Arm, 6, 0), mixed().in(api.Settle, 5, 1), mixed().in(api.Settle, 4, 2), mixed().in(api.Settle, 6, 3)}
	for i, phase := range later {
		l = append(l, mixed().in(phase, 5, 2).onto(2, i%4), mixed().in(phase, 5, 0), mixed().in(phase, 4, 3), mixed().in(phase, 0, 1))
	}
	return l
}

// edge is what a thread has at an edge, or over one, and whether it is asked then, if it has not answered.
type edge struct {
	change func(x *api.Thread)
	asked  bool
}

// askedEdges are all that the chapters name.
func askedEdges() map[string]edge {
	m := map[string]edge{
		"nothing else":            {func(*api.Thread) {}, true},
		"lives no more":           {func(x *api.Thread) { x.Live = false }, false},
		"nothing to do":           {func(x *api.Thread) { x.Do = nil }, true},
		"an empty list to do":     {func(x *api.Thread) { x.Do = []api.Op{} }, true},
		"one operation":           {func(x *api.Thread) { x.Do = ops(1) }, true},
		"one operation, Pc 1":     {func(x *api.Thread) { x.Do, x.Pc = ops(1), 1 }, false},
		"199 operations":          {func(x *api.Thread) { x.Do = ops(199) }, true},
		"200 operations":          {func(x *api.Thread) { x.Do = ops(200) }, true},
		"201 operations":          {func(x *api.Thread) { x.Do = ops(201) }, false},
		"456 operations":          {func(x *api.Thread) { x.Do = ops(456) }, false},
		"nothing to do, Pc 1":     {func(x *api.Thread) { x.Do, x.Pc = nil, 1 }, false},
		"no such operation":       {func(x *api.Thread) { x.Do = []api.Op{{Kind: -1, A: -9, B: 70, C: 70}} }, true},
		"a cache that may not be": {func(x *api.Thread) { x.Cache = api.Lists{{-1, 16, 16}, {16}, {math.MaxInt}} }, true},
		"nothing in registers":    {func(x *api.Thread) { x.R = [4]int{} }, true},
		"nothing at hand":         {func(x *api.Thread) { x.X, x.Y = 0, 0 }, true},
	}
	for _, n := range append([]int{-1, -2, 1, 2, 3, 4, 5, 7}, far...) {
		m[fmt.Sprint("Pc ", n)] = edge{func(x *api.Thread) { x.Pc = n }, false}
	}
	for _, n := range append([]int{-1, -2, 4, 5, 7}, far...) {
		m[fmt.Sprint("Stage ", n)] = edge{func(x *api.Thread) { x.Stage = n }, false}
		m[fmt.Sprint("Root ", n)] = edge{func(x *api.Thread) { x.Root = n }, false}
	}
	for n := range 4 {
		m[fmt.Sprint("Root ", n)] = edge{func(x *api.Thread) { x.Root = n }, true}
	}
	return m
}

// P15.1, P15.2: a thread that has not answered is asked just where it lives, may be, and is at Pc 0: else Answer leaves all as it is. Whether it is asked All does not ask, but whether it lives.
func TestAskedEdges(t *testing.T) {
	for name, edge := range askedEdges() {
		for _, x := range unanswered() {
			edge.change(&x.T)
			if got := hand.Asked(x.C, x.T); got != edge.asked {
				t.Fatalf("%s: %v of %v: %t", name, x.T, x.C, got)
			}
			if edge.asked {
				check(t, name, x, say(x))
			} else {
				check(t, name, x, x)
			}
			if got, want := hand.All(x.C, x.T), !x.T.Live || sayAnswered(x.C, x.T); got != want {
				t.Fatalf("%s: %v of %v: all %t", name, x.T, x.C, got)
			}
		}
	}
}

// P15.1: All of no thread, of one, of many, at each place one that has not answered; those that live no more are not waited for; one that may not be is.
func TestAll(t *testing.T) {
	for _, phase := range phases {
		c := api.Col{Phase: phase, Epoch: 5}
		good, slow := api.Thread{Live: true, Epoch: 5, Stage: 3}, api.Thread{Live: true, Epoch: 4, Stage: 3}
		gone, wrong := slow, slow
		gone.Live, wrong.Root, wrong.Pc, wrong.Do = false, 9, -1, ops(300)
		if !hand.All(c) || !hand.All(c, []api.Thread{}...) || !hand.All(c, gone) || !hand.All(c, good) || !hand.All(c, gone, gone, good, gone) {
			t.Errorf("Phase %d: all have answered", phase)
		}
		for n := 1; n < 9; n++ {
			for at := range n {
				for _, last := range []api.Thread{slow, wrong} {
					l := slices.Repeat([]api.Thread{good}, n)
					l[at] = last
					l[(at+1)%n].Live = n == 1
					if got := hand.All(c, l...); got != (phase == api.Idle) {
						t.Errorf("Phase %d, %d threads, at %d one that has not: %t", phase, n, at, got)
					}
					if l[at].Live = false; !hand.All(c, l...) {
						t.Errorf("Phase %d, %d threads, at %d one that has not, and lives no more", phase, n, at)
					}
				}
			}
		}
	}
}

// P15.1: All by hand, of threads that may not be, and live: Stage alone counts, and the Epoch.
func TestAllOfWrongThreads(t *testing.T) {
	for _, w := range []struct {
		phase, stage int
		want         bool
	}{
		{api.Idle, -1, true}, {api.Arm, -1, true}, {api.Arm, 9, true}, {api.Settle, -1, false}, {api.Settle, 4, true}, {api.Settle, math.MaxInt, true}, {api.Settle, math.MinInt, false},
		{api.Roots, 4, false}, {api.Trace, 2, false}, {api.Sweep, math.MaxInt, false}, {-1, 1<<32 + 3, false}, {api.Phases, 3, true},
	} {
		x := api.Thread{Live: true, Epoch: 2, Stage: w.stage, Root: -1, Pc: 9}
		if got := hand.All(api.Col{Phase: w.phase, Epoch: 2}, api.Thread{}, x); got != w.want {
			t.Errorf("Phase %d, Stage %d: %t", w.phase, w.stage, got)
		}
	}
}

// P15.2: of threads that have answered all is as it was, whatever registers have.
func TestAnswerAnswered(t *testing.T) {
	for root := range 4 {
		for stage := range 4 {
			for _, epoch := range []int{0, 4, 5, 6, 1<<32 + 5} {
				check(t, "Idle", mixed().in(api.Idle, epoch, stage).has(root, 16), mixed().in(api.Idle, epoch, stage).has(root, 16))
			}
			check(t, "Arm", mixed().in(api.Arm, 5, stage).has(root, 16), mixed().in(api.Arm, 5, stage).has(root, 16))
		}
		for _, stage := range []int{2, 3} {
			check(t, "Settle", mixed().in(api.Settle, 5, stage).has(root, 16), mixed().in(api.Settle, 5, stage).has(root, 16))
		}
		for _, phase := range later {
			check(t, "later", mixed().in(phase, 5, 3).has(root, 16), mixed().in(phase, 5, 3).has(root, 16))
		}
	}
}

// P15.2: in each phase but Idle a thread of another Epoch learns of the cycle: Stage 1, Root 0, and nothing else changes.
func TestAnswerAnotherEpoch(t *testing.T) {
	for _, phase := range phases[1:] {
		for _, epoch := range epochs {
			for _, own := range []int{epoch - 1, epoch + 1, 0, epoch + 1<<32, math.MinInt, math.MaxInt} {
				for n := range 16 {
					x := mixed().in(phase, own, n%4).has(n/4, []int{16, 80, 18, 37}[n%4])
					x.C.Epoch, x.C.Major = epoch, n%2 == 0
					if own == epoch {
						continue
					}
					want := x
					want.T.Epoch, want.T.Stage, want.T.Root = epoch, 1, 0
					check(t, "another Epoch", x, want)
				}
			}
		}
	}
}

// P15.2: in Settle the Stage of a thread of the collector's Epoch is 2, and nothing else changes: Root stays.
func TestAnswerSettle(t *testing.T) {
	for _, epoch := range epochs {
		for stage := range 2 {
			for root := range 4 {
				x := mixed().in(api.Settle, epoch, stage).has(root, 16)
				x.C.Epoch = epoch
				want := x
				want.T.Stage = 2
				check(t, "Settle", x, want)
			}
		}
	}
}

// works are work lists: empty, with room, full, and too long.
var works = [][]int{nil, {}, {18}, {18, 22}, {48, 18, 22}, {18, 22, 48, 40}, {1, 2, 3, 4, 5}, {0, -1, 16, 16, 16, 36, 64}}

// P15.2: in Roots, and in each phase behind it, and in such as there are not, what the next register has is shaded, by hand: noughts, objects of each colour, of a minor cycle and of a major one, addresses inside objects, of cells that are free, of nobody, and far off; Root goes on, and behind the last register Stage is 3. Nothing else changes, also no other register's object.
func TestAnswerShades(t *testing.T) {
	n := 0
	for _, phase := range later {
		for _, one := range colours {
			for root := range 4 {
				for way := range 2 {
					n++
					x := mixed().in(phase, 5, n%3).has(root, one.a)
					x.C.Major, x.C.Work, x.C.Over = way == 1, works[n%len(works)], n%5 == 0
					want := x
					if one.minor && way == 0 || one.major && way == 1 {
						want = x.grey(one.a)
					}
					want.T.Root = root + 1
					if root == 3 {
						want.T.Root, want.T.Stage = 0, 3
					}
					check(t, fmt.Sprint(one), x, want)
				}
			}
		}
	}
}

// P15.2: behind the work list's end, by hand: with three on it there is room for one more, with four there is none, and the collector is Over.
func TestAnswerFullWork(t *testing.T) {
	for n, w := range []struct {
		work []int
		then []int
		over bool
	}{
		{nil, []int{36}, false}, {[]int{18}, []int{18, 36}, false}, {[]int{18, 22, 48}, []int{18, 22, 48, 36}, false}, {[]int{18, 22, 48, 40}, []int{18, 22, 48, 40}, true}, {[]int{1, 2, 3, 4, 5}, []int{1, 2, 3, 4, 5}, true},
	} {
		x := mixed().has(2, 36)
		x.C.Work = w.work
		got := answer(x)
		if !slices.Equal(got.C.Work, w.then) || got.C.Over != w.over || got.T.Root != 3 || got.T.Stage != 2 {
			t.Errorf("%d: %v, %v", n, got.C, got.T)
		}
		if head, e := heap.Head(got.H, 36); e != api.OK || head != (api.Head{Used: true, N: 3, Born: 2, Mark: 5}) {
			t.Errorf("%d: %v", n, head)
		}
	}
}

// wrongHeaps are heaps that may not be.
func wrongHeaps() map[string]api.Heap {
	m := map[string]api.Heap{
		"nothing at all": {}, "empty": {W: []int{}, Pages: []api.Page{}, Cards: []bool{}},
		"65 pages": {W: make([]int, 65*16), Pages: make([]api.Page, 65), Cards: make([]bool, 130)},
	}
	for name, change := range map[string]func(h *api.Heap){
		"no words":                            func(h *api.Heap) { h.W = nil },
		"a word less":                         func(h *api.Heap) { h.W = h.W[1:] },
		"a page less":                         func(h *api.Heap) { h.Pages = h.Pages[:8] },
		"a card more":                         func(h *api.Heap) { h.Cards = append(h.Cards, true) },
		"a kind of page that there is not":    func(h *api.Heap) { h.Pages[8].Kind = api.Kinds },
		"a large page that does not go on":    func(h *api.Heap) { h.Pages[5] = api.Page{} },
		"a first word that is no head's":      func(h *api.Heap) { h.W[20-16] = -1 },
		"a large page without an object":      func(h *api.Heap) { h.W[64-16] = 0 },
		"too many fields for a cell":          func(h *api.Heap) { h.W[36-16] = headWord(api.Head{Used: true, N: 4}) },
		"a cell on Free twice":                func(h *api.Heap) { h.Free[0] = []int{24, 26, 24} },
		"a cell on Free that is used":         func(h *api.Heap) { h.Free[1] = []int{36} },
		"an address on Free far off":          func(h *api.Heap) { h.Free[2] = []int{math.MaxInt} },
		"an address on Free, but for 32 bits": func(h *api.Heap) { h.Free[0] = []int{1<<32 + 24} },
	} {
		x := mixed()
		change(&x.H)
		m[name] = x.H
	}
	return m
}

// P15.2, R1: of a heap that may not be nothing is white: it stays as it is, and the thread goes on all the same. With the thread's cache the heap need not be one that may be.
func TestAnswerWrongHeaps(t *testing.T) {
	for name, h := range wrongHeaps() {
		for _, phase := range phases[1:] {
			for root := range 4 {
				x := mixed().in(phase, 4, 2).has(root, 16)
				x.H = h
				check(t, name, x, x.onto(1, 0))
				if x = x.in(phase, 5, 1); phase == api.Settle {
					check(t, name, x, x.onto(2, root))
				} else if phase != api.Arm && root < 3 {
					check(t, name, x, x.onto(1, root+1))
				} else if phase != api.Arm {
					check(t, name, x, x.onto(3, 0))
				}
			}
		}
	}
	x := mixed().has(1, 16)
	x.T.Cache = api.Lists{{24, 24}, {36}, {1}}
	check(t, "a wrong cache", x, x.grey(16).onto(2, 2))
}

// P15.2: of a cycle that there is not nothing is white; the thread goes on all the same.
func TestAnswerWrongEpochs(t *testing.T) {
	for _, epoch := range append([]int{-1, -2, 1<<20 + 1, 1<<20 + 5}, far...) {
		if 0 <= epoch && epoch <= 1<<20 {
			continue
		}
		for _, phase := range later {
			for root := range 4 {
				x := mixed().in(phase, epoch, 2).has(root, 16)
				x.C.Epoch = epoch
				want := x.onto(2, root+1)
				if root == 3 {
					want = x.onto(3, 0)
				}
				check(t, "a wrong Epoch", x, want)
			}
		}
	}
}

// chance hands out numbers below n, one behind the other, the same ones each time.
func chance() func(n int) int {
	seed := uint64(1)
	return func(n int) int {
		seed = seed*6364136223846793005 + 1442695040888963407
		return int((seed >> 33) % uint64(n))
	}
}

// whatever is a thread of the heap at hand, and the collector, with all of it in many ways; odd says whether it may be such as none may be.
func whatever(next func(int) int, odd bool) state {
	pick := func(l ...int) int { return l[next(len(l))] }
	x := mixed()
	x.C = api.Col{Phase: next(9) - 1, Epoch: pick(0, 4, 5, 5, 5, 6, 1<<20), Major: next(2) == 0, Work: works[next(len(works))], Over: next(5) == 0, At: next(3), Field: next(3), Seek: next(40), Card: next(19), Met: next(2) == 0}
	x = x.onto(next(4), next(4))
	x.T.Epoch = pick(x.C.Epoch, x.C.Epoch, x.C.Epoch-1, 0)
	for r := range 4 {
		x.T.R[r] = colours[next(len(colours))].a
	}
	x.T.Live, x.T.Do, x.T.X, x.T.Y = next(9) != 0, ops(1+next(4)), next(40), next(40)
	if next(9) == 0 {
		x.T.Pc = next(5)
	}
	if odd {
		some := append([]int{-2, -1, 0, 1, 2, 3, 4, 5, 7, 16, 36}, far...)
		x.C.Phase, x.C.Epoch = some[next(len(some))], some[next(len(some))]
		x.T.Epoch = x.C.Epoch
		for _, p := range []*int{&x.C.At, &x.C.Card, &x.T.Epoch, &x.T.Stage, &x.T.Root, &x.T.Pc, &x.T.X, &x.T.R[next(4)]} {
			if next(4) == 0 {
				*p = some[next(len(some))]
			}
		}
		if next(9) == 0 {
			x.T.Do, x.T.Cache[next(3)] = ops(199+next(3)), []int{some[next(len(some))]}
		}
	}
	return x
}

// P15.1, P15.2, P15.3: a great many threads of all kinds, held against a second reading of the chapter.
func TestSay(t *testing.T) {
	next := chance()
	for n := range 30000 {
		x := whatever(next, n%3 == 0)
		check(t, "a second reading", x, say(x))
		if hand.Asked(x.C, x.T) != sayAsked(x.C, x.T) {
			t.Fatalf("%v of %v: asked %t", x.T, x.C, hand.Asked(x.C, x.T))
		}
		var l []api.Thread
		waits := false
		for range next(5) {
			y := whatever(next, n%3 == 1)
			y.T.Live = next(2) == 0
			l = append(l, y.T)
			waits = waits || y.T.Live && !sayAnswered(x.C, y.T)
		}
		if hand.All(x.C, l...) == waits {
			t.Fatalf("%v of %v: all %t", l, x.C, !waits)
		}
		if got, want := hand.Begin(x.C, x.T, l...), sayBegin(x.C, x.T, l); !same(got, want) {
			t.Fatalf("%v, with %v, of %v begins as %v; want %v", x.T, l, x.C, got, want)
		}
	}
}

// everything is a thread that has all set.
func everything() api.Thread {
	return api.Thread{
		R: [4]int{16, 18, -22, 32}, Cache: api.Lists{{30, 28}, {44}, {120, 112}}, Epoch: 9, Stage: 2, Root: 3,
		Do: []api.Op{{Kind: api.New, A: 1, B: 3}, {Kind: api.Exit}}, Pc: 4, X: 36, Y: 64,
	}
}

// begun is what is left of everything as it begins, with something in the register 0, and how far it has answered.
func begun(a, epoch, stage int) api.Thread {
	x := everything()
	return api.Thread{Live: true, R: [4]int{a}, Cache: x.Cache, Do: x.Do, Epoch: epoch, Stage: stage}
}

// P15.3: Begin where no thread lives, by hand: of none at all, and of such as live no more; of a thread that has everything set, lives already, or may not be; phase by phase.
func TestBeginAlone(t *testing.T) {
	gone := mixed().T
	gone.Live = false
	dead := [][]api.Thread{nil, {}, {gone}, {gone, {}, gone}, {everything(), gone, gone, gone, gone}}
	for _, epoch := range epochs {
		for _, phase := range phases {
			want := map[int]api.Thread{api.Idle: begun(0, 0, 0), api.Arm: begun(0, epoch, 1), api.Settle: begun(0, epoch, 2), api.Roots: begun(0, epoch, 3)}
			as := phase
			if phase < api.Idle || phase > api.Roots {
				as = api.Roots
			}
			for i, l := range dead {
				c := api.Col{Phase: phase, Epoch: epoch, Major: i%2 == 0, Work: []int{16}, Over: i == 3, At: 5, Card: 6}
				x := everything()
				x.Live = i%2 == 1
				if got := hand.Begin(c, x, l...); !same(got, want[as]) {
					t.Fatalf("Phase %d, Epoch %d, %d: %v; want %v", phase, epoch, i, got, want[as])
				}
				if got := hand.Begin(c, api.Thread{}, l...); !same(got, api.Thread{Live: true, Epoch: want[as].Epoch, Stage: want[as].Stage}) {
					t.Fatalf("Phase %d, Epoch %d, %d: %v", phase, epoch, i, got)
				}
			}
		}
	}
}

// P15.3: Begin where threads live: in each phase the first one's register 0 is had, with its Epoch and Stage, whatever these are, and nothing else of it; the first one that lives may be a later one.
func TestBeginWithOthers(t *testing.T) {
	for _, phase := range phases {
		for _, epoch := range []int{0, 4, 5, 6, -1, math.MaxInt} {
			for _, stage := range []int{0, 1, 2, 3, 4, -1} {
				first, gone, second := everything(), everything(), everything()
				first.Live, first.R, first.Epoch, first.Stage = true, [4]int{80, 1, 2, 3}, epoch, stage
				second.Live, second.R, second.Epoch, second.Stage = true, [4]int{48}, epoch+1, stage+1
				first.Cache, first.Do, first.Root = api.Lists{{26}}, ops(3), 2
				for i, l := range [][]api.Thread{{first}, {first, second}, {gone, first}, {gone, {}, first, gone, second}, {{}, {}, {}, {}, first, first, second}} {
					for _, live := range []bool{false, true} {
						x := everything()
						x.Live = live
						if got := hand.Begin(api.Col{Phase: phase, Epoch: 5}, x, l...); !same(got, begun(80, epoch, stage)) {
							t.Fatalf("Phase %d, Epoch %d, Stage %d, %d: %v", phase, epoch, stage, i, got)
						}
					}
				}
			}
		}
	}
}

// P15.3: a thread that begins has the register 0 of another one also where that is nothing, or no object.
func TestBeginHas(t *testing.T) {
	for _, a := range []int{0, 16, 37, -1, math.MinInt, math.MaxInt} {
		first, second := api.Thread{Live: true, R: [4]int{a, 16, 18, 22}, Epoch: 1, Stage: 2}, api.Thread{Live: true, R: [4]int{80}, Epoch: 2, Stage: 1}
		if x := hand.Begin(api.Col{Phase: api.Roots, Epoch: 2}, everything(), first, second); !same(x, begun(a, 1, 2)) {
			t.Errorf("%d: %v", a, x)
		}
	}
}

// white are those of a thread's registers, from some one on, that have what is white.
func (x state) white(from int) []int {
	var l []int
	for r := from; r < 4; r++ {
		if shade.White(x.H, x.C, x.T.R[r]) {
			l = append(l, r)
		}
	}
	return l
}

// P15.4: behind at most six answers each thread that is asked has answered, from whatever Epoch, Stage and Root, while the phase stays; behind its answers it is not asked, and more of them change nothing. What its registers have, from the first one on that it was to shade, is white no more then, where registers are shaded.
func TestSixAnswers(t *testing.T) {
	next := chance()
	for n := range 4000 {
		x := whatever(next, false)
		x.C.Phase = phases[next(len(phases))]
		if !hand.Asked(x.C, x.T) {
			continue
		}
		root := x.T.Root
		if x.T.Epoch != x.C.Epoch {
			root = 0
		}
		answers := 0
		for ; answers < 6 && hand.Asked(x.C, x.T); answers++ {
			was := x.C
			if x = answer(x); x.C.Phase != was.Phase || x.C.Epoch != was.Epoch {
				t.Fatalf("%d: another phase: %v", n, x.C)
			}
		}
		if hand.Asked(x.C, x.T) || !hand.All(x.C, x.T) || !sayAnswered(x.C, x.T) || answers == 0 {
			t.Fatalf("%d: behind %d answers not answered: %v of %v", n, answers, x.T, x.C)
		}
		if l := x.white(root); len(l) > 0 && slices.Contains(later, x.C.Phase) {
			t.Fatalf("%d: white are %v of %v", n, l, x.T.R)
		}
		check(t, "more answers", x, x)
	}
}

// P15.4: how many answers there are, by hand, and what is grey, and on Work, behind each.
func TestFiveAnswers(t *testing.T) {
	x := mixed().in(api.Roots, 4, 3)
	x.C.Work = nil
	for i, w := range []struct {
		stage, root int
		work        []int
		over        bool
	}{
		{1, 0, nil, false}, {1, 1, []int{36}, false}, {1, 2, []int{36, 16}, false}, {1, 3, []int{36, 16, 80}, false}, {3, 0, []int{36, 16, 80, 64}, false}, {3, 0, []int{36, 16, 80, 64}, false},
	} {
		x.C.Major = true
		x = answer(x)
		if x.T.Stage != w.stage || x.T.Root != w.root || !slices.Equal(x.C.Work, w.work) || x.C.Over != w.over || hand.All(x.C, x.T) != (i >= 4) {
			t.Fatalf("answer %d: %v, %v", i+1, x.C, x.T)
		}
	}
	if l := shade.Grey(x.H, x.C); !slices.Equal(l, []int{16, 18, 36, 40, 64, 80}) || len(x.white(0)) > 0 {
		t.Errorf("grey are %v", l)
	}
	y := mixed().in(api.Settle, 4, 0)
	for i, stage := range []int{1, 2, 2} {
		if y = answer(y); y.T.Stage != stage || y.T.Epoch != 5 || hand.All(y.C, y.T) != (i >= 1) {
			t.Fatalf("Settle, answer %d: %v", i+1, y.T)
		}
	}
	if z := answer(mixed().in(api.Arm, 4, 0)); z.T.Stage != 1 || !hand.All(z.C, z.T) {
		t.Errorf("Arm: %v", z.T)
	}
}

// P15.4: one that begins has answered just where the one of which it has its register has; where none lives, it has.
func TestBegunHasAnswered(t *testing.T) {
	for _, phase := range phases {
		for _, epoch := range epochs {
			for _, own := range epochs {
				for stage := range 4 {
					c, x := api.Col{Phase: phase, Epoch: epoch}, api.Thread{Live: true, R: [4]int{16}, Epoch: own, Stage: stage, Root: stage}
					y := hand.Begin(c, everything(), api.Thread{}, x, api.Thread{Live: true, Epoch: own + 1})
					if hand.All(c, y) != hand.All(c, x) {
						t.Fatalf("%v, by %v, of %v: %t", y, x, c, hand.All(c, y))
					}
					if y = hand.Begin(c, x); !hand.All(c, y) {
						t.Fatalf("%v, alone, of %v", y, c)
					}
				}
			}
		}
	}
}

// village is a heap, the collector, and threads that are picked in whatever order; of each thread, how often it has answered one behind the other.
type village struct {
	h       api.Heap
	c       api.Col
	l       []api.Thread
	answers []int
}

// program are so many operations, most of which can be done, and none of which ends the thread but the last one.
func program(next func(int) int, n int) []api.Op {
	var l []api.Op
	for range n {
		op := api.Op{Kind: []int{0, 0, 0, 1, 1, 2, 2, 2, 3, 4, 5}[next(11)], A: next(4), B: next(4), C: next(4)}
		if op.Kind == api.New {
			op.B = []int{1, 1, 2, 3, 3, 5, 7, 9, 20}[next(9)]
		}
		l = append(l, op)
	}
	return append(l, api.Op{Kind: api.Exit})
}

// pick picks the thread i: it answers, if it is asked, or begins, if it does not live, or takes a step.
func (v *village) pick(t *testing.T, i int) {
	t.Helper()
	x := state{v.h, v.c, v.l[i]}
	switch {
	case hand.Asked(x.C, x.T):
		v.answer(t, i)
		return
	case !x.T.Live && len(x.T.Do) > 0:
		v.l[i] = hand.Begin(v.c, x.T, v.l...)
	default:
		v.h, v.c, v.l[i], _, _ = mutate.Step(v.h, v.c, x.T)
	}
	v.answers[i] = 0
}

// answer is an answer of the thread i: behind its sixth one at most it has answered, and behind its last one in Roots its registers have nothing that is white.
func (v *village) answer(t *testing.T, i int) {
	t.Helper()
	x := state{v.h, v.c, v.l[i]}
	check(t, "a thread of some", x, say(x))
	x = answer(x)
	v.h, v.c, v.l[i] = x.H, x.C, x.T
	if v.answers[i]++; v.answers[i] > 6 || v.answers[i] == 6 && !hand.All(x.C, x.T) {
		t.Fatalf("behind %d answers: %v of %v", v.answers[i], x.T, x.C)
	}
	if l := x.white(0); x.C.Phase == api.Roots && hand.All(x.C, x.T) && len(l) > 0 {
		t.Fatalf("white are %v of %v", l, x.T)
	}
}

// goOn is the next phase, or cycle, where all threads have answered.
func (v *village) goOn(next func(int) int) bool {
	if !hand.All(v.c, v.l...) {
		return false
	}
	v.c.Phase = (v.c.Phase + 1) % api.Phases
	if v.c.Phase == api.Arm {
		v.c = api.Col{Phase: api.Arm, Epoch: v.c.Epoch + 1, Major: next(3) == 0}
	}
	clear(v.answers)
	return true
}

// P15.4, P15.2, P15.3: three threads, picked in whatever order, that begin, answer, and run their programs, on one heap, small and great, while cycles go on: what was whole stays whole, each phase ends, and nothing that registers have is white behind their last answer in Roots.
func TestThreads(t *testing.T) {
	next := chance()
	for _, pages := range []int{1, 3, 8, 21} {
		h, _ := heap.New(pages)
		v := village{h: h, l: make([]api.Thread, 3), answers: make([]int, 3)}
		for i := range v.l {
			v.l[i].Do = program(next, 150)
		}
		for n, waits := 0, 0; n < 3000; n++ {
			v.pick(t, next(3))
			waits++
			if n%4 == 0 && v.goOn(next) {
				waits = 0
			}
			if waits > 300 {
				t.Fatalf("%d pages: no phase behind %v, of %v", pages, v.c, v.l)
			}
			if !heap.Whole(v.h, v.l[0].Cache, v.l[1].Cache, v.l[2].Cache) {
				t.Fatalf("%d pages: not whole: %v", pages, v.h)
			}
		}
		if v.c.Epoch < 20 || slices.ContainsFunc(v.l, func(x api.Thread) bool { return x.Live || len(x.Do) > 0 }) {
			t.Errorf("%d pages: too few cycles, or a thread that has not ended: %v, %v", pages, v.c, v.l)
		}
	}
}

// asked is what calls are handed, each the parts that it has.
type asked struct {
	H api.Heap
	C api.Col
	T api.Thread
	L []api.Thread
}

// told is what a call tells: those of its parts that the call has.
type told struct {
	H  api.Heap
	C  api.Col
	T  api.Thread
	Ok bool
}

// calls are all of the package's.
var calls = []struct {
	name string
	ask  func(x asked) told
}{
	{"Asked", func(x asked) told { return told{Ok: hand.Asked(x.C, x.T)} }},
	{"Answer", func(x asked) told {
		h, c, t := hand.Answer(x.H, x.C, x.T)
		return told{H: h, C: c, T: t}
	}},
	{"All", func(x asked) told { return told{Ok: hand.All(x.C, x.L...)} }},
	{"Begin", func(x asked) told { return told{T: hand.Begin(x.C, x.T, x.L...)} }},
}

// all are things of all kinds that calls are handed: those of which there is an answer of each kind, and those of which there is none.
func all() []asked {
	var l []asked
	add := func(x state) {
		others := []api.Thread{x.T, mixed().T, everything(), {}, mixed().in(0, 4, 1).T}
		n := len(l)
		l = append(l, asked{x.H, x.C, x.T, others[n%3 : n%3+n%4]})
	}
	for _, edge := range askedEdges() {
		for i, x := range unanswered() {
			if i < 12 {
				edge.change(&x.T)
				add(x)
			}
		}
	}
	for i, one := range colours {
		for _, work := range works {
			x := mixed().has(i%4, one.a)
			x.C.Work, x.C.Major = work, i%2 == 0
			add(x)
		}
	}
	for _, h := range wrongHeaps() {
		x := mixed()
		x.H = h
		add(x)
	}
	add(state{})
	add(mixed().in(api.Idle, 0, 0))
	return l
}

// R3: what is handed in stays as it was, also behind its lists' ends, and what stands there changes no answer.
func TestHandedIn(t *testing.T) {
	for i, x := range all() {
		for _, f := range calls {
			own, kept := roomy(x)
			if got, want := f.ask(own), f.ask(x); !same(got, want) {
				t.Fatalf("%d: %s of one with room behind its lists: %v; want %v", i, f.name, got, want)
			}
			if !kept() {
				t.Fatalf("%d: %s: what was handed in is another one", i, f.name)
			}
		}
	}
}

// R3: what is answered is the caller's own, also where a thread is not asked: written over, with the room behind its lists' ends, it changes nothing of what was handed in, nor of another answer; nor the other way round.
func TestAnsweredOwn(t *testing.T) {
	for i, x := range all() {
		for _, f := range calls {
			own, kept := roomy(x)
			first, second := f.ask(own), f.ask(own)
			want := clone(second)
			spoil(first)
			if !kept() || !same(second, want) {
				t.Fatalf("%d: what %s answered is shared", i, f.name)
			}
			spoil(own)
			if !same(second, want) {
				t.Fatalf("%d: what %s was handed is shared", i, f.name)
			}
		}
	}
}

// R3: no two lists of one answer share memory, also where those that were handed in do: each of them written over, with the room behind its end, changes none but itself.
func TestAnswersApart(t *testing.T) {
	on := []int{30, 28, 26, 24, 44, 56, 18}
	was := slices.Clone(on)
	for i, x := range all() {
		x.T.Cache = api.Lists{on[:2], on[4:5], nil} // one behind the other, with those of Free and Work
		x.H.Free, x.C.Work = api.Lists{on[2:4], nil, on[5:6]}, on[6:7]
		for _, f := range calls {
			want := clone(f.ask(x))
			for n := range lists(reflect.ValueOf(want)) {
				got, sole := f.ask(x), clone(want)
				ruinList(lists(reflect.ValueOf(got))[n])
				ruinList(lists(reflect.ValueOf(sole))[n])
				if !same(got, sole) {
					t.Fatalf("%d: %s: with the list %d another one changed: %v", i, f.name, n, got)
				}
			}
		}
		if !slices.Equal(on, was) {
			t.Fatalf("%d: what was handed in is %v", i, on)
		}
	}
}

// R5: what is asked again is answered alike, whatever was asked between.
func TestAskedAgain(t *testing.T) {
	l := all()
	want := map[string][]told{}
	for _, f := range calls {
		for _, x := range l {
			want[f.name] = append(want[f.name], f.ask(x))
		}
	}
	for i, x := range slices.Backward(l) {
		for _, f := range calls {
			if got := f.ask(x); !same(got, want[f.name][i]) {
				t.Fatalf("%d: %s: %v; want %v", i, f.name, got, want[f.name][i])
			}
		}
	}
}

// R1: nothing at all, and zero values.
func TestNothing(t *testing.T) {
	want := map[string]told{"Asked": {}, "Answer": {}, "All": {Ok: true}, "Begin": {T: api.Thread{Live: true}}}
	for _, f := range calls {
		if got := f.ask(asked{}); !same(got, want[f.name]) {
			t.Errorf("%s: %v", f.name, got)
		}
	}
}

// The chapter's example.
func TestExample(t *testing.T) {
	h, _ := heap.New(1)
	c, x := api.Col{Phase: api.Arm, Epoch: 1}, api.Thread{Live: true}
	if !hand.Asked(c, x) {
		t.Error("not asked")
	}
	if _, _, y := hand.Answer(h, c, x); y.Epoch != 1 || y.Stage != 1 || hand.Asked(c, y) {
		t.Errorf("%v", y)
	}
}
