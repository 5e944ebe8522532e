package scan_test

import (
	"math"
	"slices"
	"testing"

	"ragpicker/api"
	"ragpicker/heap"
)

// R1: numbers of all kinds, everywhere: nothing panics, and where the heap may not be, or the phase is another one, all stays.
func TestAnything(t *testing.T) {
	next := chance()
	numbers := append([]int{0, 0, 1, 2, 3, 5, 15, 16, 17, 18, 32, 48, 136, 144, -1}, far...)
	some := func(n int) []int {
		var l []int
		for range next(n) {
			l = append(l, numbers[next(len(numbers))])
		}
		return l
	}
	for range 20000 {
		x := mixed()
		pick := func(was int) int {
			if next(3) > 0 {
				return was
			}
			return numbers[next(len(numbers))]
		}
		x.C = api.Col{Phase: pick(api.Scan), Epoch: pick(5), Major: next(2) == 0, Work: some(7), Over: next(2) == 0, At: pick(18), Field: pick(0), Seek: pick(18), Card: pick(0), Met: next(2) == 0}
		if next(2) == 0 {
			x.C.At = 0
		}
		switch next(6) {
		case 0:
			x.H = api.Heap{W: some(40), Pages: make([]api.Page, next(4)), Free: api.Lists{some(3), some(3), some(3)}, Cards: make([]bool, next(9))}
		case 1:
			x.H.W[next(128)] = pick(9)
		case 2:
			x.H.Pages[next(8)] = api.Page{Kind: pick(1), Arg: pick(1)}
		case 3:
			x.H.Free[next(3)] = some(4)
		}
		check(t, "anything", x, say(x))
	}
}

// all are things of all kinds that a step is handed: steps of each kind, and none; with Work of all lengths.
func all() []state {
	l := []state{{}, empty(1)}
	for _, x := range busy() {
		l = append(l, x, x.major(true), x.work(16, 20, 24), x.work(16, 20, 24, 28, 32))
		x.C.Phase = api.Trace
		l = append(l, x)
		x.C.Phase, x.H = api.Scan, wrongHeaps()["a card more"]
		l = append(l, x)
	}
	return l
}

// full is x with each list as long as there is room for.
func full(x state) state {
	x.H.W, x.H.Pages, x.H.Cards, x.C.Work = x.H.W[:cap(x.H.W)], x.H.Pages[:cap(x.H.Pages)], x.H.Cards[:cap(x.H.Cards)], x.C.Work[:cap(x.C.Work)]
	for k, l := range x.H.Free {
		x.H.Free[k] = l[:cap(l)]
	}
	return x
}

// longer is a list with memory of its own, and room behind its end, where something stands.
func longer[T any](l []T, behind T) []T {
	return append(append([]T{}, l...), behind, behind, behind)[:len(l)]
}

// roomy is x with memory of its own, and room behind each list's end; and a function that tells whether all of it, with that room, is as it was.
func roomy(x state) (state, func() bool) {
	x.H.W, x.H.Pages, x.H.Cards, x.C.Work = longer(x.H.W, 18), longer(x.H.Pages, small(0)), longer(x.H.Cards, true), longer(x.C.Work, 56)
	for k, l := range x.H.Free {
		x.H.Free[k] = longer(l, 30)
	}
	was := clone(full(x))
	return x, func() bool { return same(full(x), was) }
}

// spoilers write over the lists of x, one each, and over the room behind its end.
func spoilers(x state) []func() {
	x = full(x)
	numbers := func(l []int) func() {
		return func() {
			for i := range l {
				l[i] = ^l[i]
			}
		}
	}
	return []func(){
		numbers(x.H.W), numbers(x.H.Free[0]), numbers(x.H.Free[1]), numbers(x.H.Free[2]), numbers(x.C.Work),
		func() {
			for i, p := range x.H.Pages {
				x.H.Pages[i] = api.Page{Kind: ^p.Kind, Arg: ^p.Arg}
			}
		},
		func() {
			for i, is := range x.H.Cards {
				x.H.Cards[i] = !is
			}
		},
	}
}

// spoil writes over all lists of x.
func spoil(x state) {
	for _, f := range spoilers(x) {
		f()
	}
}

// R3: what is handed in stays as it was, also behind its lists' ends, and what stands there changes no answer.
func TestHandedIn(t *testing.T) {
	for i, x := range all() {
		own, kept := roomy(x)
		if got, want := step(own), step(x); !same(got, want) {
			t.Fatalf("%d: of one with room behind its lists: %v; want %v", i, got, want)
		}
		if !kept() {
			t.Fatalf("%d: what was handed in is another one", i)
		}
	}
}

// R3: what is answered is the caller's own, also where all stays: written over, with the room behind its lists' ends, it changes nothing of what was handed in, nor of another answer; nor the other way round.
func TestAnsweredOwn(t *testing.T) {
	for i, x := range all() {
		own, kept := roomy(x)
		first, second := step(own), step(own)
		want := clone(second)
		spoil(first)
		if !kept() || !same(second, want) {
			t.Fatalf("%d: what was answered is shared", i)
		}
		spoil(own)
		if !same(second, want) {
			t.Fatalf("%d: what was handed in is shared", i)
		}
	}
}

// R3: no two lists of one answer share memory, also where those that were handed in do: each of them written over changes none but itself.
func TestAnswersApart(t *testing.T) {
	on := []int{28, 30, 44, 48, 18}
	was := slices.Clone(on)
	for i, x := range all() {
		x.H.Free, x.C.Work = api.Lists{on[:2], on[2:3], nil}, on[3:5] // one behind the other
		want := clone(step(x))
		for n := range spoilers(want) {
			got, sole := step(x), clone(want)
			spoilers(got)[n]()
			spoilers(sole)[n]()
			if !same(got, sole) {
				t.Fatalf("%d: with the list %d another one changed: %v", i, n, got)
			}
		}
		if !slices.Equal(on, was) {
			t.Fatalf("%d: what was handed in is %v", i, on)
		}
	}
}

// R5: what is asked again is answered alike, whatever was asked between.
func TestAskedAgain(t *testing.T) {
	l := all()
	var want []state
	for _, x := range l {
		want = append(want, step(x))
	}
	for i, x := range slices.Backward(l) {
		if got := step(x); !same(got, want[i]) {
			t.Fatalf("%d: %v; want %v", i, got, want[i])
		}
	}
}

// R1: nothing at all, and zero values: a zero collector is in no Scan, and a zero heap may not be.
func TestNothing(t *testing.T) {
	check(t, "zero", state{}, state{})
	for _, card := range []int{0, 1, -1, math.MaxInt, math.MinInt} {
		x := state{C: api.Col{Phase: api.Scan, Epoch: 1, At: 16, Field: 1, Seek: 2, Card: card, Met: true}}
		check(t, "Scan, of no heap", x, x)
	}
}

// The chapter's example: without a dirty card each step is one card; one more leads to Trace.
func TestExample(t *testing.T) {
	h, _ := heap.New(1)
	x := state{h, api.Col{Phase: api.Scan, Epoch: 1}}
	for _, want := range []api.Col{{Phase: api.Scan, Epoch: 1, Card: 1}, {Phase: api.Scan, Epoch: 1, Card: 2}, {Phase: api.Trace, Epoch: 1}} {
		if x = step(x); !same(x, state{h, want}) {
			t.Errorf("%v; want %v", x, want)
		}
	}
}
