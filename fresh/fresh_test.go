package fresh_test

import (
	"reflect"
	"slices"
	"testing"

	"ragpicker/api"
	"ragpicker/fresh"
)

// some is a heap with something in each list, and room behind each list's end.
func some() api.Heap {
	return api.Heap{
		W:     append(make([]int, 0, 9), 25, 7, -1),
		Pages: append(make([]api.Page, 0, 9), api.Page{Kind: api.PageSmall, Arg: 2}, api.Page{}),
		Free:  api.Lists{append(make([]int, 0, 9), 16, 18), append(make([]int, 0, 9), 20), append(make([]int, 0, 9), 24, 32)},
		Cards: append(make([]bool, 0, 9), true, false, true),
	}
}

func sameLists(l, m api.Lists) bool {
	return slices.Equal(l[0], m[0]) && slices.Equal(l[1], m[1]) && slices.Equal(l[2], m[2])
}

func same(h, g api.Heap) bool {
	return slices.Equal(h.W, g.W) && slices.Equal(h.Pages, g.Pages) && sameLists(h.Free, g.Free) && slices.Equal(h.Cards, g.Cards)
}

// spoil writes over each list of a heap, and over the room behind its end.
func spoil(h api.Heap) {
	for _, l := range [][]int{h.W, h.Free[0], h.Free[1], h.Free[2]} {
		for i := range l[:cap(l)] {
			l[:cap(l)][i] = -77
		}
	}
	for i := range h.Pages[:cap(h.Pages)] {
		h.Pages[:cap(h.Pages)][i] = api.Page{Kind: 77, Arg: 77}
	}
	for i := range h.Cards[:cap(h.Cards)] {
		h.Cards[:cap(h.Cards)][i] = !h.Cards[:cap(h.Cards)][i]
	}
}

// R3: a copy is as what it is of, and neither hangs on what is written to the other.
func TestHeap(t *testing.T) {
	h := some()
	first, second := fresh.Heap(h), fresh.Heap(h)
	if !same(first, h) || !same(second, h) {
		t.Fatalf("%v and %v; want %v", first, second, h)
	}
	spoil(first)
	if !same(h, some()) || !same(second, some()) {
		t.Errorf("written over a copy: %v, and another one is %v", h, second)
	}
	spoil(h)
	if !same(second, some()) {
		t.Errorf("written over what it is of: %v", second)
	}
}

// R3: lists of a copy are its own, each of them.
func TestLists(t *testing.T) {
	for k := range api.Classes {
		l := some().Free
		own := fresh.Lists(l)
		if !sameLists(own, some().Free) {
			t.Fatalf("%v; want %v", own, l)
		}
		own[k][0] = -77
		if !sameLists(l, some().Free) {
			t.Errorf("written over list %d of a copy: %v", k, l)
		}
		l[(k+1)%api.Classes][0] = -78
		own[k][0] = some().Free[k][0]
		if !sameLists(own, some().Free) {
			t.Errorf("written over what it is of: %v", own)
		}
	}
}

// someCol is a collector with each of its parts set, and room behind Work's end.
func someCol() api.Col {
	return api.Col{Phase: api.Trace, Epoch: 5, Major: true, Work: append(make([]int, 0, 9), 16, 20), Over: true, At: 20, Field: 2, Seek: 24, Card: 3, Met: true}
}

// sameCol tells whether two collectors are the same, by all of their parts but Work as values, and by what is on Work.
func sameCol(c, d api.Col) bool {
	if !slices.Equal(c.Work, d.Work) {
		return false
	}
	c.Work, d.Work = nil, nil
	return reflect.DeepEqual(c, d)
}

// R3: a collector's copy is as what it is of, and neither hangs on what is written to the other, nor on what is put behind its Work.
func TestCol(t *testing.T) {
	c := someCol()
	first, second := fresh.Col(c), fresh.Col(c)
	if !sameCol(first, c) || !sameCol(second, c) {
		t.Fatalf("%v and %v; want %v", first, second, c)
	}
	first.Work[0] = -77
	first.Work = append(first.Work, -78)
	if !sameCol(c, someCol()) || !sameCol(second, someCol()) || c.Work[:3][2] == -78 {
		t.Errorf("written over a copy: %v, and another one is %v", c, second)
	}
	c.Work[1] = -79
	if !sameCol(second, someCol()) {
		t.Errorf("written over what it is of: %v", second)
	}
}

// someThread is a thread with each of its parts set, and room behind each list's end.
func someThread() api.Thread {
	do := append(make([]api.Op, 0, 9), api.Op{Kind: api.Store, A: 1, B: 2, C: 3}, api.Op{Kind: api.Exit})
	return api.Thread{Live: true, R: [4]int{16, 20, 0, 24}, Cache: some().Free, Epoch: 5, Stage: 3, Root: 2, Do: do, Pc: 4, X: 16, Y: 32}
}

// sameThread tells whether two threads are the same, by all of their parts but lists as values, and by what is on their lists.
func sameThread(t, u api.Thread) bool {
	if !slices.Equal(t.Do, u.Do) || !sameLists(t.Cache, u.Cache) {
		return false
	}
	t.Do, u.Do, t.Cache, u.Cache = nil, nil, api.Lists{}, api.Lists{}
	return reflect.DeepEqual(t, u)
}

// R3: a thread's copy is as what it is of, and neither hangs on what is written to the other, nor on what is put behind its operations.
func TestThread(t *testing.T) {
	x := someThread()
	first, second := fresh.Thread(x), fresh.Thread(x)
	if !sameThread(first, x) || !sameThread(second, x) {
		t.Fatalf("%v and %v; want %v", first, second, x)
	}
	first.R[1], first.Do[0], first.Cache[1][0] = -77, api.Op{Kind: -77}, -77
	first.Do = append(first.Do, api.Op{Kind: -78})
	if !sameThread(x, someThread()) || !sameThread(second, someThread()) || x.Do[:3][2].Kind == -78 {
		t.Errorf("written over a copy: %v, and another one is %v", x, second)
	}
	x.R[3], x.Do[1], x.Cache[2][1] = -79, api.Op{Kind: -79}, -79
	if !sameThread(second, someThread()) {
		t.Errorf("written over what it is of: %v", second)
	}
}

// R1: of what is nil, empty or zero a copy is just so.
func TestNothing(t *testing.T) {
	if h := fresh.Heap(api.Heap{}); !same(h, api.Heap{}) {
		t.Errorf("%v", h)
	}
	if l := fresh.Lists(api.Lists{nil, {}, nil}); !sameLists(l, api.Lists{}) {
		t.Errorf("%v", l)
	}
	if c := fresh.Col(api.Col{}); !sameCol(c, api.Col{}) {
		t.Errorf("%v", c)
	}
	if x := fresh.Thread(api.Thread{Do: []api.Op{}}); !sameThread(x, api.Thread{}) {
		t.Errorf("%v", x)
	}
}
