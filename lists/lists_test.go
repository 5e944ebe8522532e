package lists_test

import (
	"math"
	"slices"
	"testing"

	"ragpicker/api"
	"ragpicker/lists"
)

// far are numbers so far off that a sum with a small one leaves 64 bits, or wraps into what is right in fewer.
var far = []int{math.MinInt, math.MinInt + 1, math.MinInt + 2, math.MinInt32, -1 << 62, -1 << 32, -1<<32 + 1, 1 << 8, 1 << 31, 1 << 32, 1<<32 + 1, 1<<32 + 2, 1 << 62, math.MaxInt - 2, math.MaxInt - 1, math.MaxInt}

// wrongClasses are classes that there are not.
func wrongClasses() []int {
	return append([]int{-65, -4, -3, -2, -1, 3, 4, 5, 64}, far...)
}

// fewer are numbers below 0.
func fewer() []int {
	l := []int{-1, -2, -3, -64}
	for _, n := range far {
		if n < 0 {
			l = append(l, n)
		}
	}
	return l
}

// some are addresses of one class: none, one, several, rising and not, one of them twice, and those that are nobody's.
func some() [][]int {
	return [][]int{nil, {}, {16}, {16, 18}, {18, 16}, {16, 16}, {16, 18, 20}, {20, 16, 18, 16, 22}, {0, -1, math.MinInt, math.MaxInt, 0}, {24, 26, 28, 30, 16, 18, 20, 22, 24}}
}

// many are more addresses than a heap has words.
func many() []int {
	var l []int
	for i := range 2000 {
		l = append(l, 16+2*i)
	}
	return l
}

// with are lists that have these addresses of a class, and of the others some that are not among them.
func with(class int, a []int) api.Lists {
	l := api.Lists{{1000, 1002}, {1004}, {1008, 1016, 1024}}
	l[class] = slices.Clone(a)
	return l
}

// clone is l once more, apart.
func clone(l api.Lists) api.Lists {
	for class := range l {
		l[class] = slices.Clone(l[class])
	}
	return l
}

// same tells whether two have the same addresses.
func same(l, m api.Lists) bool {
	for class := range l {
		if !slices.Equal(l[class], m[class]) {
			return false
		}
	}
	return true
}

// zero tells whether l is as Go makes it: all its lists nil.
func zero(l api.Lists) bool { return l[0] == nil && l[1] == nil && l[2] == nil }

// backward are the addresses of l, the last one first.
func backward(l []int) []int {
	var back []int
	for i := len(l) - 1; i >= 0; i-- {
		back = append(back, l[i])
	}
	return back
}

// P6.1: what is pushed stands behind those of its class, in order; other classes stay.
func TestPush(t *testing.T) {
	for class := range 3 {
		for _, own := range append(some(), many()) {
			for _, a := range append(some(), many()) {
				l := with(class, own)
				got, e := lists.Push(l, class, a...)
				if want := with(class, slices.Concat(own, a)); e != api.OK || !same(got, want) {
					t.Fatalf("Push(%v, %d, %v): %v, %d; want %v", l, class, a, got, e, want)
				}
			}
		}
	}
}

// P6.1: the last one of a class is popped, where there is one; other classes stay.
func TestPop(t *testing.T) {
	for class := range 3 {
		for _, own := range append(some(), many()) {
			l := with(class, own)
			got, a, e := lists.Pop(l, class)
			if len(own) == 0 {
				if !zero(got) || a != 0 || e != api.ErrNone {
					t.Errorf("Pop(%v, %d): %v, %d, %d; want an error", l, class, got, a, e)
				}
				continue
			}
			last := len(own) - 1
			if want := with(class, own[:last]); e != api.OK || a != own[last] || !same(got, want) {
				t.Fatalf("Pop(%v, %d): %v, %d, %d; want %v, %d", l, class, got, a, e, want, own[last])
			}
		}
	}
}

// checkMove holds one Move against the chapter's words; n is 0 or more.
func checkMove(t *testing.T, class int, own, others []int, n int) {
	t.Helper()
	stay := max(0, len(own)-n)
	wantFrom := with(class, own[:stay])
	wantTo := api.Lists{{2000}, {2004, 2008}, nil}
	wantTo[class] = slices.Concat(others, backward(own[stay:]))
	from, to := with(class, own), clone(wantTo)
	to[class] = slices.Clone(others)
	gotFrom, gotTo, e := lists.Move(from, to, class, n)
	if e != api.OK || !same(gotFrom, wantFrom) || !same(gotTo, wantTo) {
		t.Fatalf("Move(%v, %v, %d, %d): %v, %v, %d; want %v, %v", from, to, class, n, gotFrom, gotTo, e, wantFrom, wantTo)
	}
}

// P6.2: the last n of a class are moved, the last one first, behind what is there; all, where there are fewer; other classes stay.
func TestMove(t *testing.T) {
	for class := range 3 {
		for _, own := range append(some(), many()) {
			for _, others := range some() {
				for _, n := range append([]int{0, 1, 2, 3, 4, len(own) - 1, len(own), len(own) + 1, 2*len(own) + 1}, far...) {
					if n >= 0 {
						checkMove(t, class, own, others, n)
					}
				}
			}
		}
	}
}

// P6.2: from the lists to the same ones.
func TestMoveToSame(t *testing.T) {
	for class := range 3 {
		l := with(class, []int{16, 18, 20})
		from, to, e := lists.Move(l, l, class, 2)
		if e != api.OK || !same(from, with(class, []int{16})) || !same(to, with(class, []int{16, 18, 20, 20, 18})) {
			t.Errorf("Move(%v, the same, %d, 2): %v, %v, %d", l, class, from, to, e)
		}
		if !same(l, with(class, []int{16, 18, 20})) {
			t.Errorf("what was handed in is now %v", l)
		}
	}
}

// bounds are all numbers at and about those of a list, and far ones.
func bounds(own []int) []int {
	all := slices.Clone(far)
	for _, a := range append([]int{0, 16}, own...) {
		for by := -1; by <= 1; by++ {
			if b := a + by; (b < a) == (by < 0) { // else it left 64 bits
				all = append(all, b)
			}
		}
	}
	slices.Sort(all)
	return slices.Compact(all)
}

// checkPart holds one Part against the chapter's words.
func checkPart(t *testing.T, class int, own []int, low, high int) {
	t.Helper()
	var stay, part []int
	for _, a := range own {
		switch {
		case a < low, a >= high:
			stay = append(stay, a)
		default:
			part = append(part, a)
		}
	}
	l, want := with(class, own), with(class, stay)
	got, parted, e := lists.Part(l, class, low, high)
	if e != api.OK || !same(got, want) || !slices.Equal(parted, part) {
		t.Fatalf("Part(%v, %d, %d, %d): %v, %v, %d; want %v, %v", l, class, low, high, got, parted, e, want, part)
	}
}

// P6.2: what is from low on, below high, is parted, with both bounds at, below and above each element, and on either side of one another.
func TestPart(t *testing.T) {
	for class := range 3 {
		for _, own := range some() {
			for _, low := range bounds(own) {
				for _, high := range bounds(own) {
					checkPart(t, class, own, low, high)
				}
			}
		}
		for _, b := range [][2]int{{16, 32}, {32, 16}, {0, 1 << 20}, {100, 101}, {4014, 4016}, {4015, 4016}, {math.MinInt, math.MaxInt}} {
			checkPart(t, class, many(), b[0], b[1])
		}
	}
}

// P6.2: Part's bounds, written out by hand.
func TestPartKnown(t *testing.T) {
	for _, k := range []struct {
		own        []int
		low, high  int
		stay, part []int
	}{
		{[]int{16, 18, 20, 22}, 18, 22, []int{16, 22}, []int{18, 20}},
		{[]int{22, 18, 16, 20}, 18, 22, []int{22, 16}, []int{18, 20}},
		{[]int{22, 20, 18, 16}, 18, 22, []int{22, 16}, []int{20, 18}},
		{[]int{16, 18}, 16, 17, []int{18}, []int{16}},
		{[]int{16, 18}, 16, 16, []int{16, 18}, nil},
		{[]int{16, 18}, 18, 16, []int{16, 18}, nil},
		{[]int{16, 18}, 17, 18, []int{16, 18}, nil},
		{[]int{16, 18}, 0, 19, nil, []int{16, 18}},
		{[]int{18, 16, 18}, 18, 19, []int{16}, []int{18, 18}},
		{[]int{math.MinInt, 0, math.MaxInt}, math.MinInt, math.MaxInt, []int{math.MaxInt}, []int{math.MinInt, 0}},
		{nil, 16, 32, nil, nil},
	} {
		got, part, e := lists.Part(api.Lists{k.own}, 0, k.low, k.high)
		if e != api.OK || !slices.Equal(got[0], k.stay) || !slices.Equal(part, k.part) {
			t.Errorf("Part(%v, %d, %d): %v, %v, %d; want %v, %v", k.own, k.low, k.high, got[0], part, e, k.stay, k.part)
		}
	}
}

// gathered is a row of lists, what All is of it, and whether they are Apart.
type gathered struct {
	l     []api.Lists
	all   []int
	apart bool
}

// rows are none, one, and several lists; the same address twice in one class, in two, in two lists, side by side and far from one another.
func rows() []gathered {
	return []gathered{
		{nil, nil, true},
		{[]api.Lists{}, nil, true},
		{[]api.Lists{{}}, nil, true},
		{[]api.Lists{{}, {}, {}}, nil, true},
		{[]api.Lists{{nil, {}, nil}, {{}, nil, {}}}, nil, true},
		{[]api.Lists{{{16}}}, []int{16}, true},
		{[]api.Lists{{nil, nil, {24, 16}}}, []int{24, 16}, true},
		{[]api.Lists{{{20, 16}, {32}, {48, 56}}}, []int{20, 16, 32, 48, 56}, true},
		{[]api.Lists{{{20}, nil, {48}}, {{18, 16}, {36, 32}}, {}, {nil, {40}}}, []int{20, 48, 18, 16, 36, 32, 40}, true},
		{[]api.Lists{{{math.MaxInt, math.MinInt}, {0, -1}}}, []int{math.MaxInt, math.MinInt, 0, -1}, true},
		{[]api.Lists{{{16, 16}}}, []int{16, 16}, false},
		{[]api.Lists{{nil, {16, 20, 24, 16}}}, []int{16, 20, 24, 16}, false},
		{[]api.Lists{{nil, nil, {24, 16, 16}}}, []int{24, 16, 16}, false},
		{[]api.Lists{{{16, 18}, {16}}}, []int{16, 18, 16}, false},
		{[]api.Lists{{{18, 16}, {20}, {16}}}, []int{18, 16, 20, 16}, false},
		{[]api.Lists{{nil, {16}, {24, 16}}}, []int{16, 24, 16}, false},
		{[]api.Lists{{{16}}, {{16}}}, []int{16, 16}, false},
		{[]api.Lists{{{16}}, {{18}, nil, {32}}, {nil, nil, {16}}}, []int{16, 18, 32, 16}, false},
		{[]api.Lists{{nil, {20}}, {}, {{18, 20}}}, []int{20, 18, 20}, false},
		{[]api.Lists{{{0}}, {{0}}}, []int{0, 0}, false},
		{[]api.Lists{{{math.MinInt, 5}, {math.MinInt}}}, []int{math.MinInt, 5, math.MinInt}, false},
		{[]api.Lists{{many()}, {nil, {1}}}, append(many(), 1), true},
		{[]api.Lists{{many()}, {nil, {16}}}, append(many(), 16), false},
	}
}

// P6.3: All are all addresses, list by list, class by class; Apart, where none of these is there twice.
func TestAllAndApart(t *testing.T) {
	for _, r := range rows() {
		if got := lists.All(r.l...); !slices.Equal(got, r.all) {
			t.Errorf("All(%v): %v; want %v", r.l, got, r.all)
		}
		if got := lists.Apart(r.l...); got != r.apart {
			t.Errorf("Apart(%v): %t", r.l, got)
		}
	}
}

// places goes through all rows of n addresses, each of which is one of the same n.
func places(n int, f func([]int)) {
	all := 1
	for range n {
		all *= n
	}
	for i := range all {
		var l []int
		for range n {
			l, i = append(l, 16+i%n), i/n
		}
		f(l)
	}
}

// P6.3: all ways in which up to five addresses are among each other, over two lists of two classes.
func TestApartEverywhere(t *testing.T) {
	for n := range 6 {
		places(n, func(a []int) {
			apart := true
			for i := range a {
				apart = apart && !slices.Contains(a[:i], a[i])
			}
			for cut := range n + 1 {
				l := []api.Lists{{a[:cut/2], nil, a[cut/2 : cut]}, {nil, a[cut:]}}
				if got := lists.Apart(l...); got != apart {
					t.Fatalf("Apart(%v): %t", l, got)
				}
				if got := lists.All(l...); !slices.Equal(got, a) {
					t.Fatalf("All(%v): %v; want %v", l, got, a)
				}
			}
		})
	}
}

// P6.1, P6.2: of a class that there is not, or of fewer than 0, all is told by ErrArg, and all else is zero, whatever else is wrong.
func TestWrong(t *testing.T) {
	full := api.Lists{{16, 18}, {32, 36}, {48}}
	for _, l := range []api.Lists{full, {}, {{}, {}, {}}} {
		for _, class := range wrongClasses() {
			if got, e := lists.Push(l, class, 20); !zero(got) || e != api.ErrArg {
				t.Errorf("Push(%v, %d): %v, %d", l, class, got, e)
			}
			if got, e := lists.Push(l, class); !zero(got) || e != api.ErrArg {
				t.Errorf("Push(%v, %d) of nothing: %v, %d", l, class, got, e)
			}
			if got, a, e := lists.Pop(l, class); !zero(got) || a != 0 || e != api.ErrArg {
				t.Errorf("Pop(%v, %d): %v, %d, %d", l, class, got, a, e)
			}
			for _, n := range append(fewer(), 0, 1, 2, math.MaxInt) {
				if from, to, e := lists.Move(l, full, class, n); !zero(from) || !zero(to) || e != api.ErrArg {
					t.Errorf("Move(%v, %d, %d): %v, %v, %d", l, class, n, from, to, e)
				}
			}
			for _, b := range [][2]int{{0, 100}, {100, 0}, {math.MinInt, math.MaxInt}} {
				if got, part, e := lists.Part(l, class, b[0], b[1]); !zero(got) || part != nil || e != api.ErrArg {
					t.Errorf("Part(%v, %d): %v, %v, %d", l, class, got, part, e)
				}
			}
		}
		for class := range 3 {
			for _, n := range fewer() {
				if from, to, e := lists.Move(l, full, class, n); !zero(from) || !zero(to) || e != api.ErrArg {
					t.Errorf("Move(%v, %d, %d): %v, %v, %d", l, class, n, from, to, e)
				}
			}
		}
	}
}

// P6.1, P6.2, P6.3: of lists that are nil.
func TestNil(t *testing.T) {
	var none api.Lists
	for class := range 3 {
		if got, e := lists.Push(none, class); e != api.OK || !same(got, none) {
			t.Errorf("Push of nothing: %v, %d", got, e)
		}
		if got, e := lists.Push(none, class, nil...); e != api.OK || !same(got, none) {
			t.Errorf("Push of nil: %v, %d", got, e)
		}
		if got, a, e := lists.Pop(none, class); !zero(got) || a != 0 || e != api.ErrNone {
			t.Errorf("Pop: %v, %d, %d", got, a, e)
		}
		for _, n := range []int{0, 1, 2, math.MaxInt} {
			if from, to, e := lists.Move(none, none, class, n); e != api.OK || !same(from, none) || !same(to, none) {
				t.Errorf("Move of %d: %v, %v, %d", n, from, to, e)
			}
		}
		if got, part, e := lists.Part(none, class, math.MinInt, math.MaxInt); e != api.OK || len(part) != 0 || !same(got, none) {
			t.Errorf("Part: %v, %v, %d", got, part, e)
		}
	}
}

// P6.4: what was pushed is popped, the last one first, from whichever class, till what was there ahead is there again.
func TestPushedIsPopped(t *testing.T) {
	for class := range 3 {
		for _, own := range some() {
			for _, a := range append(some(), many()) {
				before := with(class, own)
				l, e := lists.Push(before, class, a...)
				for i := len(a) - 1; i >= 0 && e == api.OK; i-- {
					var got int
					if l, got, e = lists.Pop(l, class); got != a[i] {
						t.Fatalf("of class %d, behind Push of %v: Pop %d: %d", class, a, i, got)
					}
				}
				if e != api.OK || !same(l, before) {
					t.Fatalf("of class %d, behind Push of %v and as many Pops: %v, %d; want %v", class, a, l, e, before)
				}
			}
		}
	}
}

// P6.4: pushed one by one, or at once: it is the same; and what is popped from two classes in turn is each one's own.
func TestPushedOneByOne(t *testing.T) {
	one := api.Lists{}
	for i, a := range []int{16, 32, 18, 36, 20} {
		one, _ = lists.Push(one, i%2, a)
	}
	at, _ := lists.Push(api.Lists{}, 1, 32, 36)
	at, _ = lists.Push(at, 0, 16, 18, 20)
	if !same(one, at) {
		t.Errorf("%v, %v", one, at)
	}
	for i, want := range []int{20, 36, 18, 32, 16} {
		var a int
		if one, a, _ = lists.Pop(one, i%2); a != want {
			t.Errorf("Pop %d: %d; want %d", i, a, want)
		}
	}
}

// sorted are all addresses of some lists, rising.
func sorted(l ...api.Lists) []int {
	var all []int
	for _, m := range l {
		all = slices.Concat(all, m[0], m[1], m[2])
	}
	slices.Sort(all)
	return all
}

// P6.4: what is moved, or parted, is lost nowhere, and nothing is there that was not.
func TestLostNowhere(t *testing.T) {
	for class := range 3 {
		for _, own := range append(some(), many()) {
			from, to := with(class, own), with(class, []int{300, 302})
			for _, n := range []int{0, 1, 2, 4, len(own), math.MaxInt} {
				less, more, _ := lists.Move(from, to, class, n)
				if !slices.Equal(sorted(less, more), sorted(from, to)) {
					t.Errorf("Move(%v, %v, %d, %d): %v, %v", from, to, class, n, less, more)
				}
				back, whole, _ := lists.Move(more, less, class, min(n, len(own)))
				if !same(back, to) || !same(whole, from) {
					t.Errorf("Move there and back of %d of %v: %v, %v", n, own, back, whole)
				}
			}
			for _, b := range [][2]int{{16, 18}, {17, 23}, {22, 17}, {math.MinInt, 20}, {18, math.MaxInt}} {
				less, part, _ := lists.Part(from, class, b[0], b[1])
				if !slices.Equal(sorted(less, api.Lists{part}), sorted(from)) {
					t.Errorf("Part(%v, %d, %v): %v, %v", from, class, b, less, part)
				}
			}
		}
	}
}

// roomy are lists with room behind each of their last elements, and these with what stands in that room.
func roomy() (api.Lists, api.Lists) {
	whole := api.Lists{{16, 18, 20, 7, 7, 7, 7}, {32, 36, 7, 7, 7, 7}, {48, 7, 7, 7, 7}}
	return api.Lists{whole[0][:3], whole[1][:2], whole[2][:1]}, whole
}

// answer is what a call of that name told: lists, and what was parted, or All.
type answer struct {
	name  string
	l     []api.Lists
	alone []int
}

// lists are all lists of an answer, each in a place of its own.
func (a answer) lists() [][]int {
	all := [][]int{a.alone}
	for _, l := range a.l {
		all = append(all, l[:]...)
	}
	return all
}

// answers are those of each call, of a class, and of errors too.
func answers(l, to api.Lists, class int) []answer {
	var all []answer
	for _, a := range [][]int{nil, {64}, {64, 66, 68}, l[0]} {
		got, _ := lists.Push(l, class, a...)
		all = append(all, answer{"Push", []api.Lists{got}, nil})
	}
	popped, _, _ := lists.Pop(l, class)
	all = append(all, answer{"Pop", []api.Lists{popped}, nil})
	for _, n := range []int{-1, 0, 1, 2, 9} {
		less, more, _ := lists.Move(l, to, class, n)
		all = append(all, answer{"Move", []api.Lists{less, more}, nil})
	}
	for _, b := range [][2]int{{0, 100}, {18, 37}, {20, 20}, {9, 1}, {36, 49}} {
		got, part, _ := lists.Part(l, class, b[0], b[1])
		all = append(all, answer{"Part", []api.Lists{got}, part})
	}
	return append(all, answer{"All", nil, lists.All(l, to)}, answer{"All of one", nil, lists.All(l)}, answer{"All of one class", nil, lists.All(api.Lists{l[0]})})
}

// kept are the lists of answers, with memory of their own.
func kept(l []answer) [][][]int {
	var all [][][]int
	for _, a := range l {
		var own [][]int
		for _, list := range a.lists() {
			own = append(own, slices.Clone(list))
		}
		all = append(all, own)
	}
	return all
}

// checkKept fails where a list of an answer is not what it was; but for one of them, if it is told.
func checkKept(t *testing.T, got []answer, want [][][]int, what string, but ...int) {
	t.Helper()
	for i, a := range got {
		for j, list := range a.lists() {
			if !slices.Equal([]int{i, j}, but) && !slices.Equal(list, want[i][j]) {
				t.Fatalf("%s: the list %d of %s (%d) is now %v; it was %v", what, j, a.name, i, list, want[i][j])
			}
		}
	}
}

// R3: what is handed in stays as it was, also behind its end.
func TestHandedIn(t *testing.T) {
	for class := -1; class <= 3; class++ {
		l, whole := roomy()
		to, wholeTo := roomy()
		was := clone(whole)
		more := []int{64, 66, 7, 7}
		answersOf := func(l, to api.Lists) {
			answers(l, to, class)
			lists.Push(l, class, more[:2]...)
			lists.Apart(l, to)
			lists.Apart(to)
		}
		answersOf(l, to)
		answersOf(l, l)
		if !same(whole, was) || !same(wholeTo, was) || !slices.Equal(more, []int{64, 66, 7, 7}) {
			t.Errorf("of class %d: what was handed in is now %v, %v, %v; it was %v", class, whole, wholeTo, more, was)
		}
		if len(l[0]) != 3 || len(l[1]) != 2 || len(l[2]) != 1 {
			t.Errorf("of class %d: what was handed in is now %v", class, l)
		}
	}
}

// R3: Apart sorts nothing of the caller's.
func TestApartLeaves(t *testing.T) {
	l := []api.Lists{{{20, 16, 18}, {36, 32}}, {{24, 22}}}
	lists.Apart(l...)
	lists.Apart(l[0])
	if !same(l[0], api.Lists{{20, 16, 18}, {36, 32}}) || !same(l[1], api.Lists{{24, 22}}) {
		t.Errorf("%v", l)
	}
	handed := []api.Lists{{{20, 16}}, {{18}}, {{5}}}
	lists.All(handed[:2]...)
	lists.Apart(handed[:2]...)
	if !same(handed[0], api.Lists{{20, 16}}) || !same(handed[1], api.Lists{{18}}) || !same(handed[2], api.Lists{{5}}) {
		t.Errorf("%v", handed)
	}
}

// spoil writes over all of a list, and over the room behind its end.
func spoil(l []int) {
	l = l[:cap(l)]
	for i := range l {
		l[i] = -77
	}
}

// R3: what is answered is the caller's own: written over, with the room behind it, it changes nothing of what was handed in, of another answer, nor of another list of the same.
func TestAnsweredOwn(t *testing.T) {
	for class := range 3 {
		l, whole := roomy()
		was := clone(whole)
		want := kept(answers(l, l, class))
		for i := range want {
			for j := range want[i] {
				got, other := answers(l, l, class), answers(l, l, class)
				spoil(got[i].lists()[j])
				checkKept(t, got, want, "what was answered is shared", i, j)
				checkKept(t, other, want, "what was answered is shared with another answer")
				if !same(whole, was) {
					t.Fatalf("what was handed in is now %v; it was %v", whole, was)
				}
			}
		}
	}
}

// R3: what was handed in, written over, changes nothing of what was answered.
func TestHandedInLater(t *testing.T) {
	for class := range 3 {
		l, whole := roomy()
		more := []int{64, 66}
		got := answers(l, l, class)
		want := kept(got)
		pushed, _ := lists.Push(l, class, more...)
		wantPushed := slices.Concat(l[class], more)
		for c := range whole {
			spoil(whole[c])
		}
		spoil(more)
		checkKept(t, got, want, "what was handed in is shared")
		if !slices.Equal(pushed[class], wantPushed) {
			t.Errorf("what was pushed is now %v; it was %v", pushed[class], wantPushed)
		}
	}
}

// R3: two that grow from one list do not grow into one another.
func TestGrowApart(t *testing.T) {
	base := api.Lists{}
	for i := range 40 {
		base, _ = lists.Push(base, 0, 16+2*i)
		one, _ := lists.Push(base, 0, 1000)
		two, _ := lists.Push(base, 0, 2000)
		less, _, _ := lists.Pop(base, 0)
		lists.Push(less, 0, 3000)
		_ = append(base[0], 4000)
		if last := len(one[0]) - 1; one[0][last] != 1000 || two[0][last] != 2000 || base[0][i] != 16+2*i {
			t.Fatalf("%v, %v, %v", base, one, two)
		}
	}
}

// R5: what is asked again is answered alike, whatever was asked between.
func TestAskedAgain(t *testing.T) {
	ask := func(class int) []answer {
		l, _ := roomy()
		return answers(l, api.Lists{{100}, {104}, {112}}, class)
	}
	first := [][][][]int{kept(ask(0)), kept(ask(1)), kept(ask(2))}
	for class := 2; class >= 0; class-- {
		for other := -1; other <= 3; other++ {
			ask(other)
			lists.Apart(api.Lists{{16, 16}})
			checkKept(t, ask(class), first[class], "asked again")
		}
	}
}

// The chapter's example.
func TestExample(t *testing.T) {
	l, e := lists.Push(api.Lists{}, 0, 16, 18, 20)
	if e != api.OK || !same(l, api.Lists{{16, 18, 20}}) {
		t.Errorf("Push: %v, %d", l, e)
	}
	if got, a, e := lists.Pop(l, 0); e != api.OK || a != 20 || !same(got, api.Lists{{16, 18}}) {
		t.Errorf("Pop: %v, %d, %d", got, a, e)
	}
	from, to, e := lists.Move(l, api.Lists{}, 0, 2)
	if e != api.OK || !same(from, api.Lists{{16}}) || !same(to, api.Lists{{20, 18}}) {
		t.Errorf("Move: %v, %v, %d", from, to, e)
	}
}
