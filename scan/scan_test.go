package scan_test

import (
	"fmt"
	"math"
	"slices"
	"testing"

	"ragpicker/api"
	"ragpicker/heap"
)

// P17.1: in each phase but Scan, and in such as there are not, all stays as it is.
func TestOtherPhases(t *testing.T) {
	for name, x := range busy() {
		for _, phase := range others {
			for _, is := range []bool{false, true} {
				x := x.major(is)
				x.C.Phase = phase
				check(t, fmt.Sprint(name, ", Phase ", phase), x, x)
			}
		}
	}
}

// P17.1, R1: of a heap that may not be, also of one of no pages, all stays as it is, whatever the next step would be.
func TestWrongHeaps(t *testing.T) {
	for name, h := range wrongHeaps() {
		for as, x := range busy() {
			x.H = h
			check(t, name+", "+as, x, x)
		}
		for _, card := range append([]int{0, 1, 2, 17}, far...) {
			check(t, name, state{h, api.Col{Phase: api.Scan, Card: card}}, state{h, api.Col{Phase: api.Scan, Card: card}})
		}
	}
}

// P17.1: where Card is below 0 all stays as it is.
func TestCardBelow0(t *testing.T) {
	for _, card := range append([]int{-1, -2, -8, -15, -16, -17, -1<<32 + 4, math.MinInt + 4, -1 << 60}, far...) {
		if card >= 0 {
			continue
		}
		for name, x := range busy() {
			x := x.card(card)
			check(t, fmt.Sprint(name, ", Card ", card), x, x)
			check(t, fmt.Sprint(name, ", Card ", card, ", Seek 0"), x.seek(0), x.seek(0))
		}
	}
}

// empty is a heap of free pages, with a collector in Scan, ahead of the card 0.
func empty(pages int) state {
	h, _ := heap.New(pages)
	return state{h, api.Col{Phase: api.Scan, Epoch: 3}}
}

// P17.1: where there is no such card the Phase is Trace, At, Field, Seek and Card are 0, and Met is false, whatever they were; nothing else changes. The last card is there still.
func TestNoCard(t *testing.T) {
	for cards, x := range map[int]state{2: empty(1), 4: empty(2), 16: mixed(), 128: empty(64)} {
		for _, c := range append(slices.Clone(parts), api.Col{}) {
			for _, card := range append([]int{cards, cards + 1, cards + 2, cards + 8, 2 * cards, 8 * cards, 16 * cards, 129}, far...) {
				if card < cards {
					continue
				}
				for _, epoch := range []int{0, 5, -1, math.MaxInt} {
					x := x.with(c).card(card)
					x.C.Epoch = epoch
					check(t, fmt.Sprint("Card ", card, " of ", cards), x, x.traced())
				}
			}
			if y := step(x.with(c).card(cards - 1)); y.C.Phase != api.Scan {
				t.Errorf("Card %d of %d: Phase %d", cards-1, cards, y.C.Phase)
			}
		}
	}
}

// P17.1: where Seek is 0, behind a clean card, from the first one to the last one, Card is one more, and nothing else changes, whatever the collector has.
func TestCleanCard(t *testing.T) {
	for _, c := range parts {
		for card := range 16 {
			x := mixed().with(c).seek(0).card(card).dirty(card, false)
			check(t, fmt.Sprint("clean, Card ", card), x, x.card(card+1))
		}
		for card := range 128 {
			x := empty(64).with(c).seek(0).card(card)
			check(t, fmt.Sprint("of many, clean, Card ", card), x, x.card(card+1))
		}
	}
}

// P17.1: where Seek is 0 a dirty card, from the first one to the last one, is clean, and no other one is; Seek is 1, At and Field are 0, Met is false, whatever they were; nothing else changes.
func TestDirtyCard(t *testing.T) {
	for _, c := range parts {
		for card := range 16 {
			x := mixed().with(c).seek(0).card(card).dirty(card, true)
			check(t, fmt.Sprint("dirty, Card ", card), x, x.dirty(card, false).at(0, 0).seek(1).met(false))
		}
		for _, card := range []int{0, 1, 63, 64, 126, 127} {
			x := empty(64).with(c).seek(0).card(card)
			for i := range x.H.Cards {
				x.H.Cards[i] = true
			}
			check(t, fmt.Sprint("of many, dirty, Card ", card), x, x.dirty(card, false).at(0, 0).seek(1).met(false))
		}
	}
}

// P17.1: where At has what is no object's address At and Field are 0, and nothing else changes, whatever Field is.
func TestNoObjectAt(t *testing.T) {
	for _, a := range nobody {
		for i, f := range []int{0, 1, 2, 3, -1, 7, math.MinInt, math.MaxInt} {
			x := mixed().with(parts[i]).seek(i - 3).card(i)
			if i == 3 {
				x = x.seek(20)
			}
			check(t, fmt.Sprint("At ", a, ", Field ", f), x.at(a, f), x.at(0, 0))
		}
	}
	x := empty(2).seek(1)
	check(t, "of no cells", x.at(16, 0), x.at(0, 0))
}

// P17.1: where an object, old or not, has no such field, At and Field are 0, and nothing else changes: what stands there is not asked for.
func TestNoField(t *testing.T) {
	for _, one := range ours {
		n := one.head.N
		for i, f := range append([]int{-1, -2, -16, n, n + 1, n + 2, n + 16, 63, 64, 128}, far...) {
			x := mixed().with(parts[i%len(parts)]).seek(18)
			for a := one.a + 1 + n; a < 144 && !slices.Contains(starts(x.H.Pages), a); a++ { // as if the fields went on
				x.H.W[a-16] = 56
			}
			check(t, fmt.Sprint("At ", one.a, ", Field ", f), x.at(one.a, f), x.at(0, 0))
		}
	}
}

// goes is x behind a step at the field f of the object at a, which has n, by hand.
func (x state) goes(a, f, n int) state {
	if f == n-1 {
		return x.at(0, 0)
	}
	return x.at(a, f+1)
}

// P17.1: of an object, old or not, a field has each of the objects of the heap at hand, itself among them: one that is old stays as it is, one that is white is shaded, and behind one that is not old, whatever its colour, Met is true; Field is one more, or, behind the last one, At and Field are 0. Nothing else changes; in a major cycle, where what is old may be white, neither.
func TestField(t *testing.T) {
	for _, from := range ours {
		n := from.head.N
		for f := range n {
			if f > 1 && f < n-2 && f%5 != 0 { // of the inner ones not all
				continue
			}
			for i, to := range ours {
				for _, is := range []bool{false, true} {
					x := mixed().leads(from.a, f, to.a).major(is).card(3*i%16).seek(18).met(i%2 == 0).at(from.a, f)
					want := x.met(i%2 == 0 || to.colour != "")
					if to.colour == "white" {
						y := to.head
						y.Mark, y.Done = 5, false
						want = want.has(to.a, y).work(to.a)
					}
					check(t, fmt.Sprint("At ", from.a, ", Field ", f, " that has ", to.a, ", major: ", is), x, want.goes(from.a, f, n))
				}
			}
		}
	}
}

// P17.1: where a field has 0, or what is no object's address, Field is one more, and nothing is met.
func TestFieldNobody(t *testing.T) {
	for _, from := range ours {
		n := from.head.N
		for i, to := range append([]int{0}, nobody...) {
			for _, f := range []int{0, n / 2, n - 1} {
				x := mixed().leads(from.a, f, to).at(from.a, f).seek(1 + i).met(i%2 == 0).over(i%3 == 0)
				check(t, fmt.Sprint("At ", from.a, ", Field ", f, " that has ", to), x, x.goes(from.a, f, n))
			}
		}
	}
}

// P17.1: in the first cycle, in the last one, in the one of which nothing is white, and in such as there are not: what is not old is met in each, but shaded only where it is white.
func TestEpochs(t *testing.T) {
	meets := func(epoch int, white bool) {
		t.Helper()
		x := mixed().has(56, api.Head{N: 4, Done: true}).leads(48, 1, 56).leads(48, 6, 56).seek(48)
		x.C.Epoch = epoch
		want := x.met(true)
		if white {
			want = want.has(56, api.Head{N: 4, Mark: epoch}).work(56)
		}
		check(t, fmt.Sprint("Epoch ", epoch), x.at(48, 1), want.at(48, 2))
		check(t, fmt.Sprint("Epoch ", epoch, ", the last field"), x.at(48, 6), want.at(0, 0))
		x = x.leads(48, 1, 32)
		check(t, fmt.Sprint("Epoch ", epoch, ", an old one"), x.at(48, 1), x.at(48, 2))
	}
	for _, epoch := range []int{1, 2, 5, 1<<20 - 1, 1 << 20} {
		meets(epoch, true)
	}
	for _, epoch := range append([]int{0}, noEpochs...) {
		meets(epoch, false)
	}
}

// P17.1: where Work has room what is shaded stands behind it; where it is full, or too long, the collector is Over; what is not shaded changes neither, but is met.
func TestFullWork(t *testing.T) {
	for _, l := range [][]int{nil, {}, {16}, {20, 128}, {40, 0, 17}, {20, 128, 26, 40}, {1, 2, 3, 4, 5}, {math.MinInt, math.MaxInt, 0, 1, 2, 3, 4, 5, 56}} {
		for _, over := range []bool{false, true} {
			x := mixed().leads(36, 0, 56).leads(36, 1, 16).seek(36).work(l...).over(over)
			first, last := x.over(true), x.over(true)
			if len(l) < 4 {
				first, last = x.work(append(slices.Clone(l), 56)...), x.work(append(slices.Clone(l), 16)...)
			}
			check(t, fmt.Sprint("Work ", l), x.at(36, 0), first.has(56, api.Head{N: 4, Mark: 5}).at(36, 1).met(true))
			check(t, fmt.Sprint("Work ", l, ", the last field"), x.at(36, 1), last.has(16, api.Head{N: 1, Mark: 5}).at(0, 0).met(true))
			for _, a := range []int{20, 26} {
				x := x.leads(36, 0, a)
				check(t, fmt.Sprint("Work ", l, ", nothing white"), x.at(36, 0), x.at(36, 1).met(true))
			}
		}
	}
}

// P17.1: field by field, by hand: each field just once, in their order, also on a card that is not the one that the object begins on.
func TestAllFields(t *testing.T) {
	x := mixed().leads(32, 0, 56).leads(32, 1, 18).leads(32, 2, 40).card(2).seek(32).at(32, 0)
	x = step(x)
	y := mixed().leads(32, 0, 56).leads(32, 1, 18).leads(32, 2, 40).card(2).seek(32).has(56, api.Head{N: 4, Mark: 5}).work(56).met(true)
	if !same(x, y.at(32, 1)) {
		t.Errorf("behind the first one: %v", x.C)
	}
	if x = step(x); !same(x, y.at(32, 2)) {
		t.Errorf("behind the second one: %v", x.C)
	}
	if x = step(x); !same(x, y.has(40, api.Head{N: 3, Born: 4, Mark: 5}).work(56, 40).at(0, 0)) {
		t.Errorf("behind the third one: %v", x.C)
	}
	for _, one := range ours {
		x := mixed().seek(1)
		for f := range one.head.N {
			x = x.leads(one.a, f, 0)
		}
		was := x
		x = x.at(one.a, 0)
		for f := range one.head.N {
			if x = step(x); !same(x, was.goes(one.a, f, one.head.N)) {
				t.Fatalf("at %d, behind the field %d: %v", one.a, f, x.C)
			}
		}
	}
}

// P17.1: objects of the most fields of each class, and of each run of pages, and of the least: the last field of all is gone through, and not what is behind it.
func TestMostFields(t *testing.T) {
	for _, one := range []struct {
		pages  []api.Page
		fields int
	}{
		{[]api.Page{small(0)}, 1}, {[]api.Page{small(1)}, 2}, {[]api.Page{small(1)}, 3}, {[]api.Page{small(2)}, 4}, {[]api.Page{small(2)}, 7},
		{run(1), 8}, {run(1), 15}, {run(2), 16}, {run(2), 31}, {run(3), 32}, {run(3), 47}, {run(4), 48}, {run(4), 63},
	} {
		l := slices.Concat([]api.Page{{}}, one.pages, []api.Page{small(0)})
		other := 16 * len(l) // where the last page begins
		x := state{api.Heap{W: slices.Repeat([]int{other + 2}, 16*len(l)), Pages: l, Cards: make([]bool, 2*len(l))}, api.Col{Phase: api.Scan, Epoch: 1, Seek: 32, Card: 2}}
		for _, a := range starts(l) {
			x.H.W[a-16] = 0
		}
		x = x.has(32, api.Head{N: one.fields, Old: true}).has(other, api.Head{N: 1}).has(other+2, api.Head{N: 1}).at(32, one.fields-1)
		for f := range one.fields {
			x = x.leads(32, f, 0)
		}
		check(t, fmt.Sprint("nothing in ", one.fields), x, x.at(0, 0))
		x = x.leads(32, one.fields-1, other)
		check(t, fmt.Sprint("the last of ", one.fields), x, x.at(0, 0).has(other, api.Head{N: 1, Mark: 1}).work(other).met(true))
		check(t, fmt.Sprint("behind the last of ", one.fields), x.at(32, one.fields), x.at(0, 0))
	}
}

// seeks are, by cards of the heap at hand, what Seek may have, and which object is the next one then; 0, if there is none on the card.
var seeks = []struct{ card, seek, then int }{
	{0, 1, 18}, {0, 15, 18}, {0, 16, 18}, {0, 17, 18}, {0, 18, 22}, {0, 19, 22}, {0, 20, 22}, {0, 21, 22}, {0, 22, 0}, {0, 23, 0}, {0, 24, 0}, {0, 143, 0}, {0, 144, 0}, {0, math.MaxInt, 0}, {0, 1 << 32, 0}, {0, 1<<32 + 1, 0}, {0, 1<<8 + 1, 0},
	{0, -1, 18}, {0, -16, 18}, {0, -18, 18}, {0, math.MinInt, 18}, {0, math.MinInt + 22, 18}, {0, -1<<32 + 22, 18}, {0, -256 + 22, 18},
	{1, 1, 24}, {1, 16, 24}, {1, 22, 24}, {1, 23, 24}, {1, 24, 0}, {1, 25, 0}, {1, 26, 0}, {1, 31, 0}, {1, 32, 0}, {1, 35, 0}, {1, math.MinInt, 24},
	{2, 1, 32}, {2, 24, 32}, {2, 31, 32}, {2, 32, 36}, {2, 33, 36}, {2, 35, 36}, {2, 36, 0}, {2, 37, 0}, {2, 39, 0}, {2, 40, 0}, {2, -1, 32},
	{3, 1, 0}, {3, 39, 0}, {3, 40, 0}, {3, 47, 0}, {3, -1, 0}, {4, 1, 48}, {4, 47, 48}, {4, 48, 0}, {4, 55, 0}, {5, 1, 0}, {5, 55, 0}, {5, 56, 0}, {6, 1, 0}, {6, 64, 0}, {7, 1, 0}, {7, 79, 0},
	{8, 1, 80}, {8, 79, 80}, {8, 80, 0}, {8, 87, 0}, {9, 1, 0}, {9, 80, 0}, {10, 1, 96}, {10, 95, 96}, {10, 96, 0}, {11, 1, 0}, {11, 95, 0}, {12, 1, 0}, {12, 96, 0}, {13, 1, 0}, {13, math.MinInt, 0},
	{14, 1, 0}, {14, 127, 0}, {14, 128, 0}, {15, 1, 136}, {15, 128, 136}, {15, 135, 136}, {15, 136, 0}, {15, 137, 0}, {15, 143, 0}, {15, 144, 0}, {15, -2, 136}, {15, math.MaxInt, 0},
}

// P17.1: the next old object of the card behind Seek is At, and Seek, and Field is 0, by hand, whatever Field was; nothing else changes. Where there is none it is the end of the card: it is dirty, if Met is true, and else as it was, dirty or not; Card is one more, Seek is 0, Met is false, and nothing else changes.
func TestNextObject(t *testing.T) {
	for _, w := range seeks {
		for i, c := range parts {
			for _, is := range []bool{false, true} {
				x := mixed().with(c).at(0, []int{0, 2, -1, math.MinInt, math.MaxInt}[i%5]).card(w.card).seek(w.seek).dirty(w.card, is)
				want := x.left().dirty(w.card, is || c.Met)
				if w.then != 0 {
					want = x.at(w.then, 0).seek(w.then)
				}
				check(t, fmt.Sprint("Card ", w.card, ", Seek ", w.seek, ", dirty: ", is), x, want)
			}
		}
	}
	for _, epoch := range append([]int{0, 1 << 20}, noEpochs...) { // what is old is so in each cycle
		x := mixed().seek(18)
		x.C.Epoch = epoch
		check(t, fmt.Sprint("Epoch ", epoch), x, x.at(22, 0).seek(22))
	}
}

// P17.1: on a card of cells of each class each of these is free, on Free or not, or has an object, old or not: in every order the next old one behind Seek is the first that there is.
func TestEveryOrder(t *testing.T) {
	for class, fields := range []int{1, 3, 7} {
		room := 2 << class
		for way := range 1 << (2 * 8 / room) {
			x := empty(2).card(3).met(way%3 == 0)
			x.H.Pages[1] = small(class)
			var old []int
			for i := range 8 / room {
				a := 40 + room*i
				switch way >> (2 * i) & 3 {
				case 1:
					x.H.Free[class] = append(x.H.Free[class], a)
				case 2:
					x = x.has(a, api.Head{N: fields, Mark: 3})
				case 3:
					x, old = x.has(a, api.Head{N: fields, Old: true}), append(old, a)
				}
			}
			for seek := 38; seek < 50; seek++ {
				want := x.left().dirty(3, way%3 == 0)
				if i, _ := slices.BinarySearch(old, seek+1); i < len(old) {
					want = x.at(old[i], 0).seek(old[i])
				}
				check(t, fmt.Sprint("class ", class, ", way ", way, ", Seek ", seek), x.seek(seek), want)
			}
		}
	}
}

// P17.1: the order of them: with any of them so at once the first one that is so is what is done, by hand, and no other.
func TestOrder(t *testing.T) {
	for _, card := range []int{0, 16} {
		for _, seek := range []int{0, 18, 22} { // behind 0 and 18 there is an old one
			for _, at := range []int{0, 17, 32} {
				for _, field := range []int{0, 2, 3} {
					for _, met := range []bool{false, true} {
						for _, is := range []bool{false, true} {
							x := mixed().dirty(0, is).leads(32, 0, 56).leads(32, 2, 18).card(card).seek(seek).at(at, field).met(met)
							var want state
							switch {
							case card == 16:
								want = x.traced()
							case seek == 0 && is:
								want = x.dirty(0, false).seek(1).at(0, 0).met(false)
							case seek == 0:
								want = x.card(1)
							case at == 32 && field == 0:
								want = x.has(56, api.Head{N: 4, Mark: 5}).work(56).met(true).at(32, 1)
							case at != 0:
								want = x.at(0, 0)
							case seek == 18:
								want = x.at(22, 0).seek(22)
							default:
								want = x.dirty(0, is || met).card(1).seek(0).met(false)
							}
							check(t, fmt.Sprint("with ", x.C), x, want)
						}
					}
				}
			}
		}
	}
}

// say says again what the chapter says of a step.
func say(x state) state {
	c := x.C
	if !heap.May(x.H) || c.Phase != 4 || c.Card < 0 {
		return x
	}
	if c.Card > len(x.H.W)/8-1 {
		return x.traced()
	}
	if c.Seek == 0 {
		if x.H.Cards[c.Card] {
			return x.dirty(c.Card, false).seek(1).at(0, 0).met(false)
		}
		return x.card(c.Card + 1)
	}
	if c.At != 0 {
		if !slices.Contains(x.objects(), c.At) || c.Field < 0 || c.Field >= x.head(c.At).N {
			return x.at(0, 0)
		}
		if to := x.field(c.At, c.Field); x.young(to) {
			x = x.shaded(to).met(true)
		}
		return x.goes(c.At, c.Field, x.head(c.At).N)
	}
	for _, a := range x.on(c.Card) {
		if a > c.Seek {
			return x.at(a, 0).seek(a)
		}
	}
	if c.Met {
		x = x.dirty(c.Card, true)
	}
	return x.left()
}

// P17.1: a great many heaps and collectors of all kinds, held against a second reading of the chapter.
func TestSay(t *testing.T) {
	next := chance()
	pick := func(l []int) int { return l[next(len(l))] }
	for n := range 20000 {
		x := wild(next, 1+next(6))
		objects := append(x.objects(), 0, 16, 17, pick(nobody))
		x = x.card(next(len(x.H.Cards)+1) - next(2)*next(2)).met(next(2) == 0)
		if next(2) == 0 {
			a := pick(objects)
			if x = x.at(a, next(8)-1); slices.Contains(x.objects(), a) {
				x.C.Field = next(x.head(a).N+2) - 1
			}
		} else if next(2) == 0 {
			x.C.Field = pick(far)
		}
		switch next(5) {
		case 0:
			x = x.seek(next(20 + 16*len(x.H.Pages)))
		case 1, 2, 3:
			x = x.seek(14 + 8*x.C.Card + next(10))
		}
		for range next(7) * next(2) {
			x.C.Work = append(x.C.Work, pick(objects))
		}
		switch next(40) {
		case 0:
			x.C.Epoch = pick(noEpochs)
		case 1:
			x.C.Phase = pick(others)
		case 2:
			x.H.W[next(len(x.H.W))] = pick(far)
		case 3:
			x = x.card(pick(far))
		}
		check(t, fmt.Sprint("heap ", n), x, say(x))
	}
}
