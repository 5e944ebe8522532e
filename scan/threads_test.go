package scan_test

import (
	"slices"
	"testing"

	"ragpicker/api"
	"ragpicker/cards"
	"ragpicker/hand"
	"ragpicker/heap"
	"ragpicker/mutate"
	"ragpicker/reap"
	"ragpicker/regs"
	"ragpicker/shade"
	"ragpicker/trace"
)

// village is a heap, the collector, and threads that are picked in whatever order; met is how many old objects had what is white as a Scan began, and was not white as it ended, and freed and grown how many objects were freed, and grew old.
type village struct {
	state
	l                 []api.Thread
	met, freed, grown int
}

// program are some operations: most of them store what was made just before into the object that register 0 has, or load of it, so that this one grows old, and has what is not. None ends the thread but the last one.
func program(next func(int) int) []api.Op {
	n := []int{1, 3, 7, 12, 20}[next(5)]
	l := []api.Op{{Kind: api.New, A: 0, B: n}}
	for range 190 {
		op := api.Op{Kind: []int{api.New, api.New, api.Load, api.Store, api.Store, api.Store, api.Drop}[next(7)], A: 1 + next(3), B: next(4), C: next(4)}
		switch {
		case op.Kind == api.New:
			op.B = []int{1, 1, 2, 3, 3, 5, 9}[next(7)]
		case op.Kind == api.Load:
			op.C = next(n)
		case op.Kind == api.Store && next(3) > 0:
			op.A, op.B = 0, next(n)
		case op.Kind == api.Store:
			op.B = next(3)
		}
		l = append(l, op)
	}
	return append(l, api.Op{Kind: api.Exit})
}

// pick picks the thread i: it answers, if it is asked, or begins, if it does not live, or takes a step.
func (v *village) pick(i int, next func(int) int) {
	switch x := v.l[i]; {
	case hand.Asked(v.C, x):
		v.H, v.C, v.l[i] = hand.Answer(v.H, v.C, x)
	case !x.Live && len(x.Do) == 0:
		v.l[i].Do = program(next)
	case !x.Live:
		v.l[i] = hand.Begin(v.C, x, v.l...)
	default:
		v.H, v.C, v.l[i], _, _ = mutate.Step(v.H, v.C, x)
	}
}

// goOn is a step of the collector. What is to be done in Sweep is done at once.
func (v *village) goOn(t *testing.T, major bool) {
	t.Helper()
	switch v.C.Phase {
	case api.Idle:
		v.C = api.Col{Phase: api.Arm, Epoch: v.C.Epoch + 1, Major: major}
	case api.Scan:
		want, whites := say(v.state), len(v.whites())
		if v.state = step(v.state); !same(v.state, want) {
			t.Fatalf("behind a step of the collector: %v; want %v", v.C, want.C)
		}
		v.met += whites - len(v.whites())
		if l := v.whites(); v.C.Phase == api.Trace && len(l) > 0 {
			t.Fatalf("in Trace these are old, and have what is white: %v: %v", l, v.l)
		}
	case api.Trace:
		v.H, v.C = trace.Step(v.H, v.C)
	case api.Sweep:
		v.sweep(t)
	default:
		if hand.All(v.C, v.l...) {
			v.C.Phase++
		}
		if v.C.Phase == api.Scan && v.C.Major {
			v.C.Phase = api.Trace
		}
	}
}

// sweep frees all that is white; what is not old, and was not born in this cycle, grows old, and its card is dirty. Nothing that a thread reaches is white then.
func (v *village) sweep(t *testing.T) {
	t.Helper()
	for _, a := range v.held() {
		if shade.White(v.H, v.C, a) {
			t.Fatalf("at %d there is what is white, and reached: %v, %v", a, v.C, v.l)
		}
	}
	for _, a := range heap.Used(v.H) {
		x, _ := heap.Head(v.H, a)
		switch {
		case shade.White(v.H, v.C, a):
			v.H, _ = reap.Free(v.H, a)
			v.freed++
		case !x.Old && x.Born < v.C.Epoch:
			x.Old = true
			v.H, _ = heap.Set(v.H, a, x)
			v.H, _ = cards.Dirty(v.H, a)
			v.grown++
		}
	}
	v.C = api.Col{Epoch: v.C.Epoch, Major: v.C.Major}
}

// held is all that threads that live hold, and all that these lead to.
func (v *village) held() []int {
	var l []int
	for _, x := range v.l {
		if x.Live {
			l = append(l, regs.Holds(x)...)
		}
	}
	for i := 0; i < len(l); i++ {
		if y, e := heap.Head(v.H, l[i]); e == api.OK {
			for f := range y.N {
				if a := v.field(l[i], f); a != 0 && !slices.Contains(l, a) {
					l = append(l, a)
				}
			}
		}
	}
	return l
}

// storing tells whether a thread is in a store to the object at a, ahead of its end.
func (v *village) storing(a int) bool {
	return slices.ContainsFunc(v.l, func(x api.Thread) bool {
		return x.Live && x.Pc == 4 && x.Do[0].Kind == api.Store && x.R[x.Do[0].A] == a
	})
}

// check tells what may not be, at any time.
func (v *village) check(t *testing.T) {
	t.Helper()
	var caches []api.Lists
	for _, x := range v.l {
		caches = append(caches, x.Cache)
	}
	if !heap.Whole(v.H, caches...) {
		t.Fatalf("not whole: %v", v.H)
	}
	for _, a := range v.untold() {
		if !v.storing(a) {
			t.Fatalf("the one at %d has what is not old, on a clean card: %v, %v, %v", a, v.C, v.H, v.l)
		}
	}
	for _, a := range v.held() {
		if _, e := heap.Head(v.H, a); e != api.OK {
			t.Fatalf("at %d there is no object, and it is reached: %v, %v", a, v.C, v.l)
		}
	}
}

// P17.2: three threads, picked in whatever order, that make objects, store and load, and let go, while minor cycles go on, and now and then a major one: behind each step each old object that has what is not old is on a dirty card, or on the one that is gone through, or its store is not done; in Trace none has what is white, and nothing that is reached is freed.
func TestThreads(t *testing.T) {
	next := chance()
	met, freed, grown, cycles := 0, 0, 0, 0
	for _, pages := range []int{1, 3, 6, 12, 24} {
		h, _ := heap.New(pages)
		v := village{state: state{H: h}, l: make([]api.Thread, 3)}
		for range 5000 {
			v.pick(next(3), next)
			for range next(7) {
				if v.C.Phase != api.Idle || next(90) == 0 { // time enough to store what is white
					v.goOn(t, next(5) == 0)
				}
			}
			v.check(t)
		}
		met, freed, grown, cycles = met+v.met, freed+v.freed, grown+v.grown, cycles+v.C.Epoch
	}
	if met < 15 || freed < 400 || grown < 300 || cycles < 150 {
		t.Errorf("too few: %d met, %d freed, %d grown, %d cycles", met, freed, grown, cycles)
	}
}
