package cells_test

import (
	"math"
	"slices"
	"testing"

	"ragpicker/api"
	"ragpicker/cells"
)

// free, rest, small and large are the pages that there are.
var (
	free = api.Page{Kind: api.PageFree}
	rest = api.Page{Kind: api.PageRest}
)

func small(class int) api.Page { return api.Page{Kind: api.PageSmall, Arg: class} }
func large(n int) api.Page     { return api.Page{Kind: api.PageLarge, Arg: n} }

// blocks are pages that may stand one behind the other in any order: one of each way in which cells stand on them.
func blocks() [][]api.Page {
	return [][]api.Page{{free}, {small(0)}, {small(1)}, {small(2)}, {large(1)}, {large(2), rest}, {large(3), rest, rest}, {large(4), rest, rest, rest}}
}

// shortLists goes through all that are made of one to so many blocks.
func shortLists(most int) func(func([]api.Page) bool) {
	return func(yield func([]api.Page) bool) {
		lists := [][]api.Page{nil}
		for range most {
			var longer [][]api.Page
			for _, l := range lists {
				for _, b := range blocks() {
					longer = append(longer, slices.Concat(l, b))
				}
			}
			for _, l := range longer {
				if !yield(slices.Clone(l)) {
					return
				}
			}
			lists = longer
		}
	}
}

// longLists are of 64 pages, and of one less: all of one block, as many as fit, one at the end, and all in turn.
func longLists() [][]api.Page {
	var lists [][]api.Page
	for _, size := range []int{api.MaxPages - 1, api.MaxPages} {
		for _, b := range blocks() {
			full := slices.Repeat(b, size/len(b))
			lists = append(lists,
				slices.Concat(full, slices.Repeat([]api.Page{free}, size-len(full))),
				slices.Concat(slices.Repeat([]api.Page{free}, size-len(b)), b))
		}
		turn := slices.Repeat(slices.Concat(blocks()...), 4) // 14 pages, four times
		lists = append(lists, slices.Concat(turn, slices.Repeat([]api.Page{small(2)}, size-len(turn))))
	}
	return lists
}

// wrongLists are pages that may not be; there is room for cells on most of them.
func wrongLists() [][]api.Page {
	many := slices.Repeat([]api.Page{small(0)}, 65)
	return [][]api.Page{
		nil, {}, many, append(many, small(0)), slices.Repeat([]api.Page{free}, 65),
		{rest}, {small(0), rest}, {free, rest}, {large(1), rest}, {large(2), rest, rest}, {small(1), large(2), rest, rest},
		{large(2)}, {small(0), large(2)}, {small(0), large(4), rest, rest}, {large(2), free}, {large(2), small(0)}, {large(2), large(1)},
		{large(0)}, {large(-1)}, {large(5), rest, rest, rest, rest}, {large(math.MaxInt)}, {large(1 << 60)}, {large(math.MinInt), small(0)},
		{small(3)}, {small(-1)}, {small(0), small(3)}, {small(3), small(0)}, {small(math.MaxInt)}, {small(1<<32 + 1)}, {small(math.MinInt)},
		{{Kind: api.PageFree, Arg: 1}}, {small(0), {Kind: api.PageFree, Arg: -1}}, {{Kind: api.PageFree, Arg: 2}, large(1)},
		{large(2), {Kind: api.PageRest, Arg: 1}}, {large(2), {Kind: api.PageRest, Arg: 2}, small(0)},
		{{Kind: -1}}, {{Kind: 4}}, {small(0), {Kind: 4}}, {{Kind: 5, Arg: 1}, small(2)}, {{Kind: 1<<32 + 1}}, {{Kind: math.MinInt, Arg: 1}},
	}
}

// far are numbers so far off that a sum with an address, or so many times a page, leaves 64 bits, or wraps into what is right in fewer.
var far = []int{math.MinInt, math.MinInt + 1, math.MinInt + 15, math.MinInt + 16, math.MinInt + 17, math.MinInt + 32, math.MinInt/16 - 1, math.MinInt / 16, math.MinInt32,
	-1 << 61, -1 << 60, -1<<60 + 1, -1 << 59, -1 << 32, -1<<32 + 16, 1 << 31, 1 << 32, 1<<32 + 1, 1<<32 + 16, 1<<32 + 17, 1 << 59, 1<<59 - 1, 1 << 60, 1<<60 + 1, 1<<60 - 1, 1<<61 + 1, 1 << 62,
	math.MaxInt / 16, math.MaxInt/16 + 1, math.MaxInt - 64, math.MaxInt - 17, math.MaxInt - 16, math.MaxInt - 15, math.MaxInt - 8, math.MaxInt - 2, math.MaxInt - 1, math.MaxInt}

// addresses are all of the words of l, many on either side, and far ones.
func addresses(l []api.Page) []int {
	all := slices.Clone(far)
	for a := -40; a < 16+16*len(l)+40; a++ {
		all = append(all, a)
	}
	return all
}

// span is a cell as the chapter says it: where it begins, and how many words are its.
type span struct{ at, words int }

// spans says again where cells begin on a page that there is, word by word.
func spans(l []api.Page, page int) []span {
	from := 16
	for range page {
		from += 16
	}
	p, n := l[page], 0
	switch {
	case p.Kind == 2:
		for range p.Arg {
			n += 16
		}
		return []span{{from, n}}
	case p.Kind == 1 && p.Arg == 0:
		n = 2
	case p.Kind == 1 && p.Arg == 1:
		n = 4
	case p.Kind == 1 && p.Arg == 2:
		n = 8
	default:
		return nil
	}
	var all []span
	for word := range 16 {
		if word%n == 0 {
			all = append(all, span{from + word, n})
		}
	}
	return all
}

// every says again where all cells begin.
func every(l []api.Page) []span {
	var all []span
	for page := range l {
		all = append(all, spans(l, page)...)
	}
	return all
}

// begins are where cells begin.
func begins(all []span) []int {
	var l []int
	for _, s := range all {
		l = append(l, s.at)
	}
	return l
}

// told is what the chapter says of an address: where the cell begins in which it lies, how many words that has which begins there, and which is the next one.
type told struct {
	start   int
	started bool
	room    int
	next    int
	more    bool
}

// say says again what the chapter says of an address, all cells being handed in.
func say(all []span, a int) told {
	var s told
	for _, c := range slices.Backward(all) {
		for word := c.at; word < c.at+c.words; word++ {
			if word == a {
				s.start, s.started = c.at, true
			}
		}
		if c.at == a {
			s.room = c.words
		}
		if c.at > a {
			s.next, s.more = c.at, true
		}
	}
	return s
}

// ask is what the package says of it.
func ask(l []api.Page, a int) told {
	var s told
	s.start, s.started = cells.Start(l, a)
	s.room = cells.Room(l, a)
	s.next, s.more = cells.Next(l, a)
	return s
}

// checkAddresses holds Start, Room and Next of all addresses against the chapter's words.
func checkAddresses(t *testing.T, l []api.Page) {
	t.Helper()
	all := every(l)
	for _, a := range addresses(l) {
		if got, want := ask(l, a), say(all, a); got != want {
			t.Fatalf("of %v at %d: %+v; want %+v", l, a, got, want)
		}
	}
}

// checkLists holds On and All against the chapter's words.
func checkLists(t *testing.T, l []api.Page) {
	t.Helper()
	if got, want := cells.All(l), begins(every(l)); !slices.Equal(got, want) {
		t.Fatalf("All(%v): %v; want %v", l, got, want)
	}
	for page := range l {
		if got, want := cells.On(l, page), begins(spans(l, page)); !slices.Equal(got, want) {
			t.Fatalf("On(%v, %d): %v; want %v", l, page, got, want)
		}
	}
}

// P5.1, P5.2: cells that are written out by hand.
func TestKnown(t *testing.T) {
	for _, k := range []struct {
		l    []api.Page
		all  []int
		room []int
	}{
		{[]api.Page{free}, nil, nil},
		{[]api.Page{small(0)}, []int{16, 18, 20, 22, 24, 26, 28, 30}, []int{2, 2, 2, 2, 2, 2, 2, 2}},
		{[]api.Page{small(1)}, []int{16, 20, 24, 28}, []int{4, 4, 4, 4}},
		{[]api.Page{small(2)}, []int{16, 24}, []int{8, 8}},
		{[]api.Page{large(1)}, []int{16}, []int{16}},
		{[]api.Page{large(4), rest, rest, rest}, []int{16}, []int{64}},
		{[]api.Page{free, small(2), large(2), rest, free, small(1), large(1)}, []int{32, 40, 48, 96, 100, 104, 108, 112}, []int{8, 8, 32, 4, 4, 4, 4, 16}},
	} {
		if got := cells.All(k.l); !slices.Equal(got, k.all) {
			t.Errorf("All(%v): %v; want %v", k.l, got, k.all)
		}
		for i, a := range k.all {
			if got := cells.Room(k.l, a); got != k.room[i] {
				t.Errorf("Room(%v, %d): %d; want %d", k.l, a, got, k.room[i])
			}
			for _, in := range []int{a, a + 1, a + k.room[i] - 1} {
				if got, ok := cells.Start(k.l, in); got != a || !ok {
					t.Errorf("Start(%v, %d): %d, %t; want %d", k.l, in, got, ok, a)
				}
			}
			if got, _ := cells.Start(k.l, a+k.room[i]); got == a {
				t.Errorf("Start(%v, %d): %d, of the word behind that cell", k.l, a+k.room[i], got)
			}
		}
		if !slices.Equal(begins(every(k.l)), k.all) {
			t.Errorf("the test's own words are wrong of %v", k.l)
		}
	}
}

// P5.1: On and All, of all short lists of pages, and of the longest.
func TestOnAndAll(t *testing.T) {
	for l := range shortLists(4) {
		checkLists(t, l)
	}
	for _, l := range longLists() {
		checkLists(t, l)
	}
}

// P5.1: on a page that there is not nothing begins, nor on one that is free, or goes on.
func TestOnWrong(t *testing.T) {
	for _, l := range [][]api.Page{{small(0)}, {large(1)}, {small(2), large(2), rest}, {large(4), rest, rest, rest}, slices.Repeat([]api.Page{small(1)}, 64)} {
		for _, page := range append([]int{-64, -16, -2, -1, len(l), len(l) + 1, len(l) + 16, 64, 65, 1024}, far...) {
			if got := cells.On(l, page); len(got) != 0 {
				t.Errorf("On(%v, %d): %v", l, page, got)
			}
		}
	}
	l := []api.Page{free, large(4), rest, rest, rest, small(0), free}
	for _, page := range []int{0, 2, 3, 4, 6} {
		if got := cells.On(l, page); len(got) != 0 {
			t.Errorf("On(%v, %d): %v", l, page, got)
		}
	}
}

// P5.1, P5.2: Start, Room and Next of each address, of all short lists of pages, and of the longest.
func TestAddresses(t *testing.T) {
	for l := range shortLists(3) {
		checkAddresses(t, l)
	}
	for _, l := range longLists() {
		checkAddresses(t, l)
	}
}

// P5.1, P5.2: of pages that may not be all are nothing.
func TestWrongPages(t *testing.T) {
	for _, l := range wrongLists() {
		if got := cells.All(l); len(got) != 0 {
			t.Errorf("All(%v): %v", l, got)
		}
		for _, n := range addresses(l) {
			if got := cells.On(l, n); len(got) != 0 {
				t.Errorf("On(%v, %d): %v", l, n, got)
			}
			if got := ask(l, n); got != (told{}) {
				t.Errorf("of %v at %d: %+v", l, n, got)
			}
		}
	}
}

// P5.2: Next from 0, from the last cell, from one behind all, and from far off.
func TestNextEdges(t *testing.T) {
	l := []api.Page{free, small(2), free, large(2), rest, free}
	for _, c := range []struct {
		a, next int
		ok      bool
	}{
		{0, 32, true}, {16, 32, true}, {31, 32, true}, {-1, 32, true}, {math.MinInt, 32, true},
		{32, 40, true}, {33, 40, true}, {39, 40, true}, {40, 64, true}, {48, 64, true}, {63, 64, true},
		{64, 0, false}, {65, 0, false}, {95, 0, false}, {96, 0, false}, {111, 0, false}, {112, 0, false}, {math.MaxInt, 0, false},
	} {
		if next, ok := cells.Next(l, c.a); next != c.next || ok != c.ok {
			t.Errorf("Next(%d): %d, %t; want %d, %t", c.a, next, ok, c.next, c.ok)
		}
	}
	for _, a := range []int{math.MinInt, 0, 15, 16, math.MaxInt} {
		if next, ok := cells.Next([]api.Page{free, free}, a); next != 0 || ok {
			t.Errorf("Next of free pages, %d: %d, %t", a, next, ok)
		}
	}
}

// checkTiles fails where a word is in no cell's room and no free page, or in two.
func checkTiles(t *testing.T, l []api.Page) {
	t.Helper()
	in := map[int]int{}
	cover := func(from, n int) {
		for a := from; a < from+n; a++ {
			in[a]++
		}
	}
	for _, a := range cells.All(l) {
		cover(a, cells.Room(l, a))
	}
	for page, p := range l {
		if p == free {
			cover(16+16*page, 16)
		}
	}
	for a := 16; a < 16+16*len(l); a++ {
		if in[a] != 1 {
			t.Fatalf("of %v the word at %d is in %d", l, a, in[a])
		}
	}
	if len(in) != 16*len(l) {
		t.Fatalf("of %v %d words are in cells and free pages", l, len(in))
	}
}

// checkChain fails where Next, from 0 on, does not tell just all cells, or a cell's words are not its own.
func checkChain(t *testing.T, l []api.Page) {
	t.Helper()
	var chain []int
	for a, ok := cells.Next(l, 0); ok; a, ok = cells.Next(l, a) {
		if chain = append(chain, a); len(chain) > 512 {
			t.Fatalf("of %v Next tells no end", l)
		}
		n := cells.Room(l, a)
		for in := a; in < a+n; in++ {
			if at, ok := cells.Start(l, in); at != a || !ok {
				t.Fatalf("of %v the word at %d is in %d, %t; want %d", l, in, at, ok, a)
			}
		}
	}
	var on []int
	for page := range l {
		on = append(on, cells.On(l, page)...)
	}
	if all := cells.All(l); !slices.Equal(chain, all) || !slices.Equal(on, all) {
		t.Fatalf("of %v: by Next %v, by pages %v, all %v", l, chain, on, all)
	}
	if !slices.IsSorted(chain) {
		t.Fatalf("of %v: %v", l, chain)
	}
}

// P5.3: rooms and free pages tile all words, and by Next all cells are told.
func TestTiled(t *testing.T) {
	for l := range shortLists(4) {
		checkTiles(t, l)
		checkChain(t, l)
	}
	for _, l := range longLists() {
		checkTiles(t, l)
		checkChain(t, l)
	}
}

// R3: what is handed in stays as it was, also behind its end, which is not looked at.
func TestHandedIn(t *testing.T) {
	for _, l := range append(longLists(), []api.Page{large(2), rest}, []api.Page{large(2)}, []api.Page{rest}, []api.Page{}) {
		roomy := append(slices.Clone(l), rest, small(0), small(0), large(4))
		was, in := slices.Clone(roomy), roomy[:len(l)]
		if got, want := cells.All(in), cells.All(slices.Clone(l)); !slices.Equal(got, want) {
			t.Errorf("All hangs on what stands behind: %v; want %v", got, want)
		}
		for n := -1; n < 16+16*len(l)+20; n++ {
			cells.On(in, n)
			if got, want := ask(in, n), ask(slices.Clone(l), n); got != want {
				t.Errorf("of %v at %d: %+v; want %+v", l, n, got, want)
			}
		}
		if !slices.Equal(roomy, was) {
			t.Fatalf("what was handed in is now %v; it was %v", roomy, was)
		}
	}
}

// R3: what is answered is the caller's own: no two answers, and no answer and what was handed in, share anything.
func TestAnsweredOwn(t *testing.T) {
	l := []api.Page{small(1), large(2), rest, free, small(2)}
	all, on := []int{16, 20, 24, 28, 32, 80, 88}, []int{16, 20, 24, 28}
	spoil := func(a []int) {
		for i := range a {
			a[i] = -1
		}
		_ = append(a, -1, -1)
	}
	spoil(cells.All(l))
	spoil(cells.On(l, 0))
	gotAll, gotOn := cells.All(l), cells.On(l, 0)
	spoil(cells.All(l))
	spoil(cells.On(l, 0))
	for i := range l {
		l[i] = free
	}
	if !slices.Equal(gotAll, all) || !slices.Equal(gotOn, on) {
		t.Errorf("All %v, On %v; want %v, %v", gotAll, gotOn, all, on)
	}
}

// R5: what is asked again is answered alike, whatever was asked between, also of pages that are others by then.
func TestAskedAgain(t *testing.T) {
	l := []api.Page{small(0), large(1), free}
	before := every(l)
	for a := range 70 {
		for _, other := range append(wrongLists(), []api.Page{large(3), rest, rest}) {
			cells.All(other)
			cells.On(other, 0)
			ask(other, a)
		}
		if got, want := ask(l, a), say(before, a); got != want {
			t.Errorf("at %d: %+v; want %+v", a, got, want)
		}
	}
	l[1], l[2] = small(2), large(1)
	checkLists(t, l)
	checkAddresses(t, l)
}

// The chapter's example.
func TestExample(t *testing.T) {
	l := []api.Page{small(2), large(2), rest}
	if got := cells.All(l); !slices.Equal(got, []int{16, 24, 32}) {
		t.Errorf("All: %v", got)
	}
	if a, ok := cells.Start(l, 50); a != 32 || !ok {
		t.Errorf("Start(50): %d, %t", a, ok)
	}
	if got := cells.Room(l, 32); got != 32 {
		t.Errorf("Room(32): %d", got)
	}
}
