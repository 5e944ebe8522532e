package pages_test

import (
	"math"
	"slices"
	"testing"

	"ragpicker/api"
	"ragpicker/pages"
)

// free, rest, small and large are the pages that there are.
var (
	free = api.Page{Kind: api.PageFree}
	rest = api.Page{Kind: api.PageRest}
)

func small(class int) api.Page { return api.Page{Kind: api.PageSmall, Arg: class} }
func large(n int) api.Page     { return api.Page{Kind: api.PageLarge, Arg: n} }

// far are numbers so far off that a sum with a place, or a small number, leaves 64 bits, or wraps into what is right in fewer.
var far = []int{math.MinInt, math.MinInt + 1, math.MinInt + 2, math.MinInt + 64, -1 << 32, -1<<32 + 1, -1 << 62, 1 << 8, 1 << 32, 1<<32 + 1, 1<<32 + 2, 1 << 62, math.MaxInt - 64, math.MaxInt - 4, math.MaxInt - 3, math.MaxInt - 2, math.MaxInt - 1, math.MaxInt}

// few are near numbers: all places of short lists, all Kinds, classes and numbers of pages, and some on either side.
var few = []int{-65, -64, -5, -4, -3, -2, -1, 0, 1, 2, 3, 4, 5, 6, 7, 8, 63, 64, 65}

func numbers() []int { return slices.Concat(few, far) }

// may says again what the chapter says of pages that may be.
func may(l []api.Page) bool {
	if len(l) < 1 || len(l) > 64 {
		return false
	}
	goesOn := make([]bool, len(l)) // whether a large object ahead says of a page that it goes on
	for i, p := range l {
		if p.Kind != 2 {
			continue
		}
		if p.Arg < 1 || p.Arg > 4 || len(l)-i < p.Arg {
			return false
		}
		for j := i + 1; j < i+p.Arg; j++ {
			goesOn[j] = true
		}
	}
	for i, p := range l {
		switch {
		case goesOn[i] != (p.Kind == 3):
			return false
		case p.Kind < 0 || p.Kind > 3:
			return false
		case (p.Kind == 0 || p.Kind == 3) && p.Arg != 0:
			return false
		case p.Kind == 1 && (p.Arg < 0 || p.Arg > 2):
			return false
		}
	}
	return true
}

// find says again what the chapter says of Find.
func find(l []api.Page, n int) (int, bool) {
	if !may(l) || n < 1 || n > 4 {
		return 0, false
	}
	run := 0
	for i, p := range l {
		if p.Kind != 0 {
			run = 0
			continue
		}
		if run++; run == n {
			return i - n + 1, true
		}
	}
	return 0, false
}

// count says again what the chapter says of Count.
func count(l []api.Page, kind int) int {
	n := 0
	for i := len(l) - 1; i >= 0; i-- {
		if l[i].Kind == kind {
			n++
		}
	}
	return n
}

// taken says again what Small and Large have in common: with which pages those from at on are to be.
func taken(l []api.Page, at int, with ...api.Page) ([]api.Page, api.Errno) {
	if !may(l) {
		return nil, api.ErrArg
	}
	if at < 0 || at >= len(l) || len(l)-at < len(with) {
		return nil, api.ErrNone
	}
	for i := range with {
		if l[at+i].Kind != 0 {
			return nil, api.ErrFull
		}
	}
	return slices.Concat(l[:at], with, l[at+len(with):]), api.OK
}

// asSmall says again what the chapter says of Small.
func asSmall(l []api.Page, at, class int) ([]api.Page, api.Errno) {
	if class < 0 || class > 2 {
		return nil, api.ErrArg
	}
	return taken(l, at, small(class))
}

// asLarge says again what the chapter says of Large.
func asLarge(l []api.Page, at, n int) ([]api.Page, api.Errno) {
	if n < 1 || n > 4 {
		return nil, api.ErrArg
	}
	return taken(l, at, slices.Concat([]api.Page{large(n)}, slices.Repeat([]api.Page{rest}, n-1))...)
}

// dropped says again what the chapter says of Drop.
func dropped(l []api.Page, at int) ([]api.Page, api.Errno) {
	if !may(l) {
		return nil, api.ErrArg
	}
	if at < 0 || at >= len(l) || l[at].Kind == 0 || l[at].Kind == 3 {
		return nil, api.ErrNone
	}
	n := 1
	if l[at].Kind == 2 {
		n = l[at].Arg
	}
	return slices.Concat(l[:at], slices.Repeat([]api.Page{free}, n), l[at+n:]), api.OK
}

// each hands on all lists of so many of the pages handed in; the list is good till the next one.
func each(of []api.Page, n int, f func([]api.Page)) {
	l := make([]api.Page, n)
	var fill func(int)
	fill = func(i int) {
		if i == n {
			f(l)
			return
		}
		for _, p := range of {
			l[i] = p
			fill(i + 1)
		}
	}
	fill(0)
}

// right are all pages that may be, seen alone.
func right() []api.Page {
	return []api.Page{free, small(0), small(1), small(2), large(1), large(2), large(3), large(4), rest}
}

// shapes are few pages, but one of each way in which they are taken, and dropped.
func shapes() []api.Page {
	return []api.Page{free, small(1), large(1), large(2), large(3), large(4), rest}
}

// wrongAlone are pages that may not be, whatever stands about them.
func wrongAlone() []api.Page {
	var l []api.Page
	for _, kind := range numbers() {
		for _, arg := range numbers() {
			p := api.Page{Kind: kind, Arg: arg}
			if !slices.Contains(right(), p) {
				l = append(l, p)
			}
		}
	}
	return l
}

// known are lists, and whether they may be: all the edges that the document names.
func known() []struct {
	l   []api.Page
	may bool
} {
	type row = struct {
		l   []api.Page
		may bool
	}
	many := func(n int, last ...api.Page) []api.Page {
		return append(slices.Repeat([]api.Page{free}, n), last...)
	}
	return []row{
		{nil, false}, {[]api.Page{}, false},
		{many(1), true}, {many(64), true}, {many(65), false}, {many(66), false}, {many(128), false},
		{[]api.Page{small(0)}, true}, {[]api.Page{small(2)}, true}, {[]api.Page{small(3)}, false}, {[]api.Page{small(-1)}, false},
		{[]api.Page{large(1)}, true}, {[]api.Page{large(0)}, false}, {[]api.Page{large(5), rest, rest, rest, rest}, false}, {[]api.Page{large(-1)}, false},
		{[]api.Page{large(2)}, false}, {[]api.Page{large(2), rest}, true}, {[]api.Page{large(2), free}, false}, {[]api.Page{large(2), small(0)}, false}, {[]api.Page{large(2), large(1)}, false},
		{[]api.Page{large(4), rest, rest, rest}, true}, {[]api.Page{large(4), rest, rest}, false}, {[]api.Page{large(4), rest, rest, free}, false}, {[]api.Page{large(4), rest, free, rest}, false}, {[]api.Page{large(4), free, rest, rest}, false},
		{[]api.Page{large(4), rest, rest, rest, rest}, false}, {[]api.Page{large(1), rest}, false}, {[]api.Page{small(0), rest}, false}, {[]api.Page{free, rest}, false}, {[]api.Page{rest}, false}, {[]api.Page{rest, large(2), rest}, false},
		{[]api.Page{large(2), rest, large(2), rest}, true}, {[]api.Page{large(1), large(1)}, true}, {[]api.Page{large(3), rest, large(2), rest}, false}, {[]api.Page{large(2), rest, large(3), rest}, false}, {[]api.Page{large(2), rest, rest, large(1)}, false},
		{many(63, large(1)), true}, {many(63, large(2)), false}, {many(60, large(4), rest, rest, rest), true}, {many(61, large(4), rest, rest), false}, {many(61, large(4), rest, rest, rest), false},
		{[]api.Page{{Kind: -1}}, false}, {[]api.Page{{Kind: 4}}, false}, {[]api.Page{{Kind: 4, Arg: 1}}, false},
		{[]api.Page{{Kind: api.PageFree, Arg: 1}}, false}, {[]api.Page{{Kind: api.PageFree, Arg: -1}}, false},
		{[]api.Page{large(2), {Kind: api.PageRest, Arg: 1}}, false}, {[]api.Page{large(2), {Kind: api.PageRest, Arg: -1}}, false}, {[]api.Page{large(2), {Kind: api.PageRest, Arg: 2}}, false},
	}
}

// P4.1: which of the lists that the document names may be.
func TestMayKnown(t *testing.T) {
	for _, k := range known() {
		if got := pages.May(k.l); got != k.may {
			t.Errorf("May(%v): %v", k.l, got)
		}
		if may(k.l) != k.may {
			t.Errorf("the test's own words are wrong of %v", k.l)
		}
	}
}

// P4.1: May, of all short lists of pages that may be, seen alone.
func TestMay(t *testing.T) {
	for n := range 6 {
		each(right(), n, func(l []api.Page) {
			if got := pages.May(l); got != may(l) {
				t.Errorf("May(%v): %v", l, got)
			}
		})
	}
}

// P4.1: a page that may not be spoils all, wherever it stands.
func TestMayWrong(t *testing.T) {
	for _, p := range wrongAlone() {
		for _, l := range [][]api.Page{{p}, {p, free}, {free, p}, {large(2), p}, {large(2), rest, p}, {large(3), p, rest}, {small(0), p, large(1)}} {
			if pages.May(l) {
				t.Errorf("May(%v)", l)
			}
		}
	}
}

// P4.1: how many are of a Kind, in any list, also one that may not be.
func TestCount(t *testing.T) {
	for n := range 5 {
		each(right(), n, func(l []api.Page) {
			for kind := -2; kind <= 5; kind++ {
				if got := pages.Count(l, kind); got != count(l, kind) {
					t.Errorf("Count(%v, %d): %d", l, kind, got)
				}
			}
		})
	}
	full := slices.Repeat([]api.Page{small(2)}, 64)
	for _, kind := range numbers() {
		want := 0
		if kind == api.PageSmall {
			want = 64
		}
		if got := pages.Count(full, kind); got != want {
			t.Errorf("Count of 64 small pages, %d: %d", kind, got)
		}
	}
}

// P4.1: Count is of what stands there, whether or not that may be.
func TestCountWrong(t *testing.T) {
	for _, p := range wrongAlone() {
		if got := pages.Count([]api.Page{free, p, small(0), p}, p.Kind); got != count([]api.Page{free, p, small(0), p}, p.Kind) {
			t.Errorf("Count of two %v: %d", p, got)
		}
	}
	if got := pages.Count(slices.Repeat([]api.Page{free}, 70), api.PageFree); got != 70 {
		t.Errorf("Count of 70 free pages: %d", got)
	}
}

// P4.1: Find, of all short lists, and of all numbers of pages.
func TestFind(t *testing.T) {
	for n := range 8 {
		each(shapes(), n, func(l []api.Page) {
			for n := 0; n <= 5; n++ {
				at, ok := pages.Find(l, n)
				if want, there := find(l, n); at != want || ok != there {
					t.Fatalf("Find(%v, %d): %d, %v; want %d, %v", l, n, at, ok, want, there)
				}
			}
		})
	}
}

// P4.1: a run that is one too short is passed by, one that ends with the last page is found; so it is in 64 pages.
func TestFindEdges(t *testing.T) {
	for n := 1; n <= api.MaxRun; n++ {
		for at := 0; at+n <= api.MaxPages; at++ {
			l := slices.Repeat([]api.Page{small(0)}, api.MaxPages)
			for i := range n {
				l[at+i] = free
			}
			if at >= n { // ahead of it, a run that is one too short
				for i := range n - 1 {
					l[at-n+i] = free
				}
			}
			if got, ok := pages.Find(l, n); got != at || !ok {
				t.Errorf("Find of %d at %d: %d, %v", n, at, got, ok)
			}
			l[at+n-1] = small(2)
			if got, ok := pages.Find(l, n); got != 0 || ok {
				t.Errorf("Find of %d where there are none: %d, %v", n, got, ok)
			}
		}
	}
}

// P4.1: nothing is found for a number that is not from 1 to 4, nor in pages that may not be.
func TestFindWrong(t *testing.T) {
	l := slices.Repeat([]api.Page{free}, 8)
	for _, n := range numbers() {
		at, ok := pages.Find(l, n)
		if want := n >= 1 && n <= 4; at != 0 || ok != want {
			t.Errorf("Find(%v, %d): %d, %v", l, n, at, ok)
		}
	}
	for _, k := range known() {
		at, ok := pages.Find(k.l, 1)
		if want, there := find(k.l, 1); at != want || ok != there {
			t.Errorf("Find(%v, 1): %d, %v", k.l, at, ok)
		}
	}
	for _, p := range wrongAlone() {
		for _, l := range [][]api.Page{{free, p}, {p, free}} {
			if at, ok := pages.Find(l, 1); at != 0 || ok {
				t.Errorf("Find(%v, 1): %d, %v", l, at, ok)
			}
		}
	}
}

// call is Small or Large, with a number of either.
type call struct {
	name    string
	got     func(l []api.Page, at, n int) ([]api.Page, api.Errno)
	want    func(l []api.Page, at, n int) ([]api.Page, api.Errno)
	numbers []int
}

func calls() []call {
	drop := func(f func([]api.Page, int) ([]api.Page, api.Errno)) func([]api.Page, int, int) ([]api.Page, api.Errno) {
		return func(l []api.Page, at, _ int) ([]api.Page, api.Errno) { return f(l, at) }
	}
	return []call{
		{"Small", pages.Small, asSmall, []int{-1, 0, 1, 2, 3}},
		{"Large", pages.Large, asLarge, []int{-1, 0, 1, 2, 3, 4, 5}},
		{"Drop", drop(pages.Drop), drop(dropped), []int{0}},
	}
}

// check asks one call, and holds its answer against the chapter's words.
func check(t *testing.T, c call, l []api.Page, at, n int) {
	t.Helper()
	got, e := c.got(l, at, n)
	want, e2 := c.want(l, at, n)
	if e != e2 || !slices.Equal(got, want) {
		t.Fatalf("%s(%v, %d, %d): %v, %d; want %v, %d", c.name, l, at, n, got, e, want, e2)
	}
}

// P4.2, P4.3: Small, Large and Drop, of all short lists, at all places.
func TestTakeAndDrop(t *testing.T) {
	for n := range 6 {
		each(shapes(), n, func(l []api.Page) {
			for at := -1; at <= len(l)+1; at++ {
				for _, c := range calls() {
					for _, n := range c.numbers {
						check(t, c, l, at, n)
					}
				}
			}
		})
	}
}

// P4.2, P4.3: so also with numbers that are far off, and the first error is told where more would fit.
func TestTakeAndDropFar(t *testing.T) {
	lists := [][]api.Page{slices.Repeat([]api.Page{free}, 6), slices.Repeat([]api.Page{free}, 64), slices.Repeat([]api.Page{small(2)}, 64)}
	for _, k := range known() {
		lists = append(lists, k.l)
	}
	for _, l := range lists {
		for _, at := range numbers() {
			for _, n := range numbers() {
				for _, c := range calls() {
					check(t, c, l, at, n)
				}
			}
		}
	}
}

// P4.2, P4.3: so also in 64 pages, at each of them.
func TestTakeAndDropAll(t *testing.T) {
	l := slices.Repeat([]api.Page{free}, api.MaxPages)
	for at := -4; at <= api.MaxPages+1; at++ {
		for _, c := range calls() {
			for _, n := range c.numbers {
				check(t, c, l, at, n)
			}
		}
		for n := 1; n <= api.MaxRun; n++ {
			full, e := pages.Large(l, at, n)
			if e != api.OK {
				continue
			}
			for place := -1; place <= api.MaxPages; place++ {
				for _, c := range calls() {
					for _, n := range c.numbers {
						check(t, c, full, place, n)
					}
				}
			}
		}
	}
}

// P4.2, P4.3: ErrArg comes ahead of ErrNone, and that ahead of ErrFull.
func TestFirstError(t *testing.T) {
	wrong, full := []api.Page{rest}, []api.Page{small(0), large(1), free}
	errno := func(_ []api.Page, e api.Errno) api.Errno { return e }
	for _, c := range []struct {
		got, want api.Errno
	}{
		{errno(pages.Small(wrong, 0, 0)), api.ErrArg}, {errno(pages.Small(wrong, 5, 0)), api.ErrArg},
		{errno(pages.Small(full, 9, 3)), api.ErrArg}, {errno(pages.Small(full, 0, -1)), api.ErrArg},
		{errno(pages.Small(full, 3, 2)), api.ErrNone}, {errno(pages.Small(full, 0, 2)), api.ErrFull}, {errno(pages.Small(full, 1, 2)), api.ErrFull},
		{errno(pages.Large(wrong, 5, 1)), api.ErrArg}, {errno(pages.Large(full, 9, 0)), api.ErrArg}, {errno(pages.Large(full, 0, 5)), api.ErrArg},
		{errno(pages.Large(full, 0, 4)), api.ErrNone}, {errno(pages.Large(full, 1, 3)), api.ErrNone}, {errno(pages.Large(full, 0, 3)), api.ErrFull}, {errno(pages.Large(full, 1, 2)), api.ErrFull}, {errno(pages.Large(full, -1, 2)), api.ErrNone},
		{errno(pages.Drop(wrong, 0)), api.ErrArg}, {errno(pages.Drop(wrong, 5)), api.ErrArg}, {errno(pages.Drop(full, 2)), api.ErrNone}, {errno(pages.Drop(full, 3)), api.ErrNone}, {errno(pages.Drop(full, -1)), api.ErrNone},
	} {
		if c.got != c.want {
			t.Errorf("%d; want %d", c.got, c.want)
		}
	}
}

// P4.3: a page that goes on is not dropped; all of a large object are, with its first.
func TestDropLarge(t *testing.T) {
	for n := 1; n <= api.MaxRun; n++ {
		l, e := pages.Large([]api.Page{small(1), free, free, free, free, small(2)}, 1, n)
		if e != api.OK {
			t.Fatal(e)
		}
		for at := 2; at < 1+n; at++ {
			if got, e := pages.Drop(l, at); e != api.ErrNone || got != nil {
				t.Errorf("Drop of the page %d of one of %d: %v, %d", at, n, got, e)
			}
		}
		if got, e := pages.Drop(l, 1); e != api.OK || !slices.Equal(got, []api.Page{small(1), free, free, free, free, small(2)}) {
			t.Errorf("Drop of one of %d: %v, %d", n, got, e)
		}
	}
}

// P4.4: what is taken may be; dropped, it is free again; others stay.
func TestTakenAndDropped(t *testing.T) {
	for n := range 6 {
		each(shapes(), n, func(l []api.Page) {
			for at := range l {
				for _, c := range calls()[:2] {
					for _, n := range c.numbers {
						full, e := c.got(l, at, n)
						if e != api.OK {
							continue
						}
						back, e := pages.Drop(full, at)
						if !pages.May(full) || e != api.OK || !slices.Equal(back, l) {
							t.Fatalf("%s(%v, %d, %d): %v; dropped: %v, %d", c.name, l, at, n, full, back, e)
						}
					}
				}
			}
		})
	}
}

// P4.4: what is found is taken by Large; nothing ahead of it is, and nothing at all, where nothing is found.
func TestFoundAndTaken(t *testing.T) {
	for n := range 6 {
		each(shapes(), n, func(l []api.Page) {
			for n := 1; n <= api.MaxRun; n++ {
				at, ok := pages.Find(l, n)
				if !ok {
					at = len(l)
				}
				for before := range at {
					if _, e := pages.Large(l, before, n); e == api.OK {
						t.Fatalf("Find(%v, %d): %d, %v; but there is room at %d", l, n, at, ok, before)
					}
				}
				if _, e := pages.Large(l, at, n); ok && e != api.OK {
					t.Fatalf("Find(%v, %d): %d; but Large says %d", l, n, at, e)
				}
			}
		})
	}
}

// R3: what is handed in stays as it was, also behind its end, and shares nothing with what is answered.
func TestApart(t *testing.T) {
	for _, c := range calls() {
		for _, l := range [][]api.Page{{free, free, free, free}, {large(4), rest, rest, rest}, {small(1), free, large(1), free}, {small(1)}, {rest}, {}} {
			roomy := append(slices.Clone(l), small(2), small(2), small(2), small(2))
			was := slices.Clone(roomy)
			for at := -1; at <= len(l); at++ {
				for n := -1; n <= 5; n++ {
					got, e := c.got(roomy[:len(l)], at, n)
					if !slices.Equal(roomy, was) {
						t.Fatalf("%s(%v, %d, %d) changed what was handed in to %v", c.name, was, at, n, roomy)
					}
					if e != api.OK && got != nil {
						t.Errorf("%s(%v, %d, %d): %v beside %d", c.name, l, at, n, got, e)
					}
					again, _ := c.got(roomy[:len(l)], at, n)
					for i := range got {
						got[i] = api.Page{Kind: 9, Arg: 9}
					}
					if !slices.Equal(roomy, was) || slices.Contains(again, api.Page{Kind: 9, Arg: 9}) {
						t.Fatalf("%s(%v, %d, %d): what was answered is shared", c.name, l, at, n)
					}
				}
			}
			pages.May(roomy[:len(l)])
			pages.Find(roomy[:len(l)], 2)
			pages.Count(roomy[:len(l)], api.PageFree)
			if !slices.Equal(roomy, was) {
				t.Errorf("May, Find or Count changed what was handed in to %v", roomy)
			}
		}
	}
}

// R5: what is asked again is answered alike, whatever was asked between.
func TestAskedAgain(t *testing.T) {
	type told struct {
		may, found bool
		at, count  int
		lists      [3][]api.Page
		errnos     [3]api.Errno
	}
	ask := func(l []api.Page, i int) told {
		var a told
		a.may = pages.May(l)
		a.at, a.found = pages.Find(l, i)
		a.count = pages.Count(l, i)
		a.lists[0], a.errnos[0] = pages.Small(l, i, i)
		a.lists[1], a.errnos[1] = pages.Large(l, i, i)
		a.lists[2], a.errnos[2] = pages.Drop(l, i)
		return a
	}
	same := func(a, b told) bool {
		for i := range a.lists {
			if !slices.Equal(a.lists[i], b.lists[i]) {
				return false
			}
		}
		return a.may == b.may && a.found == b.found && a.at == b.at && a.count == b.count && a.errnos == b.errnos
	}
	var lists [][]api.Page
	for _, k := range known() {
		lists = append(lists, k.l)
	}
	var first []told
	for _, l := range lists {
		for i := range 5 {
			first = append(first, ask(l, i))
		}
	}
	for j := len(first) - 1; j >= 0; j-- {
		if again := ask(lists[j/5], j%5); !same(again, first[j]) {
			t.Errorf("of %v, %d: %v, then %v", lists[j/5], j%5, first[j], again)
		}
	}
}

// The chapter's example.
func TestExample(t *testing.T) {
	l := []api.Page{free, small(0), free, free}
	if at, ok := pages.Find(l, 1); at != 0 || !ok {
		t.Errorf("Find of 1: %d, %v", at, ok)
	}
	if at, ok := pages.Find(l, 2); at != 2 || !ok {
		t.Errorf("Find of 2: %d, %v", at, ok)
	}
}
