package scan_test

import (
	"fmt"
	"slices"
	"testing"

	"ragpicker/api"
	"ragpicker/heap"
)

// somePages are so many pages that may be, of all kinds.
func somePages(next func(int) int, n int) []api.Page {
	var l []api.Page
	for len(l) < n {
		switch next(6) {
		case 0:
			l = append(l, api.Page{})
		case 1:
			l = append(l, run(1+next(min(4, n-len(l))))...)
		default:
			l = append(l, small(next(3)))
		}
	}
	return l
}

// fields are the least and the most fields of objects on such a page.
func fields(p api.Page) (int, int) {
	if p.Kind == api.PageLarge {
		return max(8, 16*p.Arg-16), 16*p.Arg - 1
	}
	return []int{1, 2, 4}[p.Arg], []int{1, 3, 7}[p.Arg]
}

// wild is a heap of so many pages, of objects old and not, of all colours, whose fields lead to each other, to themselves, or nowhere; some cards are dirty. The collector is in Scan, in some cycle, ahead of the card 0.
func wild(next func(int) int, pages int) state {
	l := somePages(next, pages)
	h := api.Heap{W: make([]int, 16*pages), Pages: l, Cards: make([]bool, 2*pages)}
	x := state{h, api.Col{Phase: api.Scan, Epoch: []int{1, 5, 5, 1 << 20}[next(4)], Major: next(4) == 0, Over: next(5) == 0}}
	for _, a := range starts(l) {
		p := l[(a-16)/16]
		if p.Kind == api.PageSmall && next(6) == 0 {
			if next(2) == 0 {
				x.H.Free[p.Arg] = append(x.H.Free[p.Arg], a)
			}
			continue
		}
		least, most := fields(p)
		y := api.Head{Used: true, Old: next(2) == 0, Done: next(2) == 0, N: least + next(most-least+1), Mark: x.C.Epoch}
		if next(3) > 0 {
			y.Mark -= 1 + next(x.C.Epoch)
		}
		x.H.W[a-16] = word(y)
	}
	objects := x.objects()
	for _, a := range objects {
		for f := range x.head(a).N {
			switch next(6) {
			case 0:
				x.H.W[a-15+f] = noise(11)[next(11)]
			case 1, 2, 3:
				x.H.W[a-15+f] = objects[next(len(objects))]
			}
		}
	}
	for card := range x.H.Cards {
		x.H.Cards[card] = next(2) == 0
	}
	return x
}

// leadsYoung tells whether one of the fields of the object at a has what is not old.
func (x state) leadsYoung(a int) bool {
	for f := range x.head(a).N {
		if x.young(x.field(a, f)) {
			return true
		}
	}
	return false
}

// told is x with each old object that has what is not old on a dirty card.
func (x state) told() state {
	for card := range x.H.Cards {
		if slices.ContainsFunc(x.on(card), x.leadsYoung) {
			x = x.dirty(card, true)
		}
	}
	return x
}

// scanned is x as Trace begins, from the card 0 on, and behind how many steps that is: card by card, object by object, field by field, each of which is one step.
func (x state) scanned() (state, int) {
	y, steps := clone(x), 1
	for card, is := range x.H.Cards {
		steps++
		if !is {
			continue
		}
		y.H.Cards[card] = false
		for _, a := range x.on(card) {
			for f := range x.head(a).N {
				if to := x.field(a, f); x.young(to) {
					y = y.shaded(to)
					y.H.Cards[card] = true
				}
			}
			steps += 1 + x.head(a).N
		}
		steps++
	}
	return y.traced(), steps
}

// passes tells what is wrong with a step from x to y, whatever it is: more than the head of one object changes in the words, which was white, and not old, and is grey then; pages, Free, or the cycle change, or Work but by that object.
func passes(x, y state) string {
	changed := 0
	for i, w := range x.H.W {
		if y.H.W[i] == w {
			continue
		}
		changed++
		if want := x.shaded(16 + i); !same(state{H: want.H, C: api.Col{Work: want.C.Work, Over: want.C.Over}}, state{H: y.H, C: api.Col{Work: y.C.Work, Over: y.C.Over}}) {
			return fmt.Sprint("the word at ", 16+i)
		}
	}
	switch {
	case changed > 1:
		return "more than a word"
	case changed == 0 && (!slices.Equal(x.C.Work, y.C.Work) || x.C.Over != y.C.Over):
		return "Work, or Over"
	case !slices.Equal(x.H.Pages, y.H.Pages) || x.C.Epoch != y.C.Epoch || x.C.Major != y.C.Major:
		return "pages, or the cycle"
	}
	return ""
}

// untold are the old objects that have what is not old, are not on a dirty card, and not on the one that is gone through.
func (x state) untold() []int {
	return slices.DeleteFunc(x.objects(), func(a int) bool {
		card := (a - 16) / 8
		return !x.head(a).Old || x.H.Cards[card] || x.C.Phase == api.Scan && x.C.Seek != 0 && x.C.Card == card || !x.leadsYoung(a)
	})
}

// whites are the old objects that have what is not old, and white.
func (x state) whites() []int {
	return slices.DeleteFunc(x.objects(), func(a int) bool {
		for f := range x.head(a).N {
			if x.head(a).Old && x.white(x.field(a, f)) {
				return false
			}
		}
		return true
	})
}

// runs is x behind all steps to Trace, from the card 0 on, where each old object that has what is not old is on a dirty card: these are as many steps as they should be, behind each of them each such object is told of, and in Trace all is as it is told ahead, and no old object has what is not old, and white.
func (x state) runs(t *testing.T, name string) state {
	t.Helper()
	if l := x.untold(); len(l) > 0 || !heap.May(x.H) {
		t.Fatalf("%s: not told of, from the beginning on: %v", name, l)
	}
	was := x
	want, steps := x.scanned()
	for n := range steps {
		if x.C.Phase != api.Scan {
			t.Fatalf("%s: %v behind %d steps; there should be %d", name, x.C, n, steps)
		}
		ahead := x
		if x = step(x); passes(ahead, x) != "" {
			t.Fatalf("%s: behind %v: %s: %v", name, ahead.C, passes(ahead, x), x.C)
		}
		if l := x.untold(); len(l) > 0 {
			t.Fatalf("%s: behind %v: not told of: %v: %v", name, ahead.C, l, x.C)
		}
	}
	if !same(x, want) {
		t.Fatalf("%s: from %v, %v:\n got %v, %v\nwant %v, %v", name, was.C, was.H, x.C, x.H, want.C, want.H)
	}
	if l := x.whites(); len(l) > 0 {
		t.Fatalf("%s: these have what is white: %v", name, l)
	}
	check(t, name+", in Trace", x, x)
	return x
}

// P17.2: from heaps and collectors of all kinds, ahead of the first card: Trace is reached, behind as many steps as there should be; then no old object has what is not old, and white, and each that has what is not old is on a dirty card.
func TestToTrace(t *testing.T) {
	next := chance()
	met := 0
	for n := range 700 {
		pages := 1 + next(6)
		if n%100 == 0 {
			pages = 12
		}
		x := wild(next, pages).told()
		l := x.objects()
		for range next(6) * min(1, len(l)) {
			x.C.Work = append(x.C.Work, l[next(len(l))])
		}
		x.C.At, x.C.Field, x.C.Met = next(3)*16, next(3), next(2) == 0 // of a cycle that was not ended: they are not asked for
		y := x.runs(t, fmt.Sprint("heap ", n))
		if len(x.whites()) > 0 {
			met++
		}
		for card, is := range y.H.Cards { // nor is another card dirty
			if is && !slices.ContainsFunc(y.on(card), y.leadsYoung) {
				t.Fatalf("heap %d: the card %d is dirty: %v", n, card, y.H)
			}
		}
	}
	if met < 300 {
		t.Errorf("just %d heaps have an old object that has what is white", met)
	}
}

// P17.2: from wherever a collector is, at whatever card, object and field, Trace is reached, step by step as a second reading of the chapter tells it, behind no more steps than from the beginning on with all cards dirty, and one more object.
func TestFromAnywhere(t *testing.T) {
	next := chance()
	for n := range 400 {
		x := wild(next, 1+next(4))
		all := x
		for card := range x.H.Cards {
			all = all.dirty(card, true)
		}
		_, bound := all.scanned()
		x = x.card(next(len(x.H.Cards) + 2)).seek(next(16 + len(x.H.W))).met(next(2) == 0)
		if next(2) == 0 {
			x = x.at(next(16+len(x.H.W)), next(3))
		}
		if next(9) == 0 {
			x.C.Epoch = noEpochs[next(len(noEpochs))]
		}
		for steps := 0; x.C.Phase == api.Scan; steps++ {
			want := say(x)
			if y := step(x); !same(y, want) || passes(x, y) != "" {
				t.Fatalf("heap %d: behind %v: %v; want %v: %s", n, x.C, y.C, want.C, passes(x, y))
			}
			if x = want; steps > bound+64 {
				t.Fatalf("heap %d: no Trace behind %d steps: %v", n, steps, x.C)
			}
		}
		if !same(x, x.traced()) {
			t.Fatalf("heap %d: in Trace %v", n, x.C)
		}
	}
}

// plain is a heap of pages, each cell of which is an object that is old, of as many fields as there can be, which have nothing; in the cycle 3, in Scan, ahead of the card 0. Each card is clean.
func plain(l []api.Page) state {
	x := state{api.Heap{W: make([]int, 16*len(l)), Pages: l, Cards: make([]bool, 2*len(l))}, api.Col{Phase: api.Scan, Epoch: 3}}
	for _, a := range starts(l) {
		_, most := fields(l[(a-16)/16])
		x.H.W[a-16] = word(api.Head{Used: true, Old: true, N: most, Mark: 2})
	}
	return x
}

// makeYoung is x with some objects not old, and white.
func (x state) makeYoung(l ...int) state {
	for _, a := range l {
		y := x.head(a)
		y.Old, y.Mark = false, 2
		x = x.has(a, y)
	}
	return x
}

// P17.2: a card with four objects, by hand, step by step: two old ones, one of which has what is white, and the other nothing, and behind each of them one that is not old.
func TestCardOfMany(t *testing.T) {
	x := plain([]api.Page{small(0), small(0)}).makeYoung(18, 22, 40).dirty(0, true).leads(16, 0, 40).leads(18, 0, 22)
	for n, want := range []api.Col{
		{Seek: 1}, {Seek: 16, At: 16}, {Seek: 16, Met: true}, {Seek: 20, At: 20, Met: true}, {Seek: 20, Met: true},
		{Card: 1}, {Card: 2}, {Card: 3}, {Card: 4}, {Phase: api.Trace},
	} {
		want.Phase, want.Epoch = max(want.Phase, api.Scan), 3
		if n > 1 {
			want.Work = []int{40}
		}
		x = step(x)
		if !same(state{C: x.C}, state{C: want}) || x.H.Cards[0] != (n > 4) || slices.Contains(x.H.Cards[1:], true) {
			t.Fatalf("step %d: %v; want %v; cards %v", n+1, x.C, want, x.H.Cards)
		}
	}
	if x.white(40) || !x.white(22) {
		t.Errorf("what an old one has is white, or what has one that is not old is not")
	}
}

// P17.2: where the work list is full what has no room there is grey, too, and the collector is Over; by hand, of an object of seven fields, and of four objects of one.
func TestFull(t *testing.T) {
	x := plain([]api.Page{small(2), small(0), small(1)}).makeYoung(32, 34, 36, 38, 48, 52, 56).dirty(0, true)
	for f, to := range []int{34, 48, 32, 38, 56, 36, 52} {
		x = x.leads(16, f, to)
	}
	y := x.runs(t, "seven fields")
	if !slices.Equal(y.C.Work, []int{34, 48, 32, 38}) || !y.C.Over || !slices.Equal(y.H.Cards, []bool{true, false, false, false, false, false}) {
		t.Errorf("seven fields: %v, %v", y.C, y.H.Cards)
	}
	y = x.work(1, 2, 3).runs(t, "room for one")
	if !slices.Equal(y.C.Work, []int{1, 2, 3, 34}) || !y.C.Over {
		t.Errorf("room for one: %v", y.C)
	}
	x = plain([]api.Page{small(0), small(0)}).makeYoung(32, 34, 36, 38).leads(16, 0, 38).leads(18, 0, 36).leads(20, 0, 34).leads(22, 0, 32).dirty(0, true)
	if y := x.runs(t, "four objects"); !slices.Equal(y.C.Work, []int{38, 36, 34, 32}) || y.C.Over {
		t.Errorf("four objects: %v", y.C)
	}
	if y := x.leads(24, 0, 38).dirty(1, true).runs(t, "one twice"); !slices.Equal(y.C.Work, []int{38, 36, 34, 32}) || y.C.Over || !slices.Equal(y.H.Cards, []bool{true, true, false, false}) {
		t.Errorf("one twice: %v, %v", y.C, y.H.Cards)
	}
}

// P17.2: an object across cards is gone through, all of it, by the card that it begins on; by another one of its cards it is not.
func TestAcross(t *testing.T) {
	for n := 1; n <= 4; n++ {
		x := plain(slices.Concat([]api.Page{{}}, run(n), []api.Page{small(0)}))
		other := 32 + 16*n // where the last page begins
		for f := range 16*n - 1 {
			x := x.makeYoung(other, other+2).leads(32, f, other)
			y := x.dirty(2, true).runs(t, fmt.Sprint(n, " pages, field ", f))
			if !slices.Equal(y.C.Work, []int{other}) || !y.H.Cards[2] || y.white(other) || !y.white(other+2) {
				t.Errorf("%d pages, field %d: %v", n, f, y.C)
			}
			if f%15 != 0 {
				continue
			}
			x = x.dirty(2, false)
			for card := 3; card < 2+2*n; card++ {
				x = x.dirty(card, true)
			}
			want, steps := x.scanned()
			for range steps {
				x = step(x)
			}
			if !same(x, want) || !x.white(other) || slices.Contains(x.H.Cards, true) || x.C.Phase != api.Trace {
				t.Errorf("%d pages, field %d, by another card: %v", n, f, x.C)
			}
		}
	}
}

// P17.2: each kind of object leads to each other one, old ones and not, by a field, across all pages, from a card ahead and from one behind.
func TestEachToEach(t *testing.T) {
	l := slices.Concat(run(1), []api.Page{small(0), small(1)}, run(2), []api.Page{small(2), small(0)})
	for _, from := range starts(l) {
		for _, to := range starts(l) {
			x := plain(l).leads(from, 0, to)
			if y := x.dirty((from-16)/8, true).runs(t, fmt.Sprint(from, " has ", to, ", old")); len(y.C.Work) > 0 || slices.Contains(y.H.Cards, true) {
				t.Errorf("%d has %d: %v, %v", from, to, y.C, y.H.Cards)
			}
			if x = x.makeYoung(to).told(); from == to {
				continue
			}
			y := x.runs(t, fmt.Sprint(from, " has ", to))
			if !slices.Equal(y.C.Work, []int{to}) || !y.H.Cards[(from-16)/8] || y.white(to) {
				t.Errorf("%d has %d: %v, %v", from, to, y.C, y.H.Cards)
			}
		}
	}
}

// P17.2: cycle by cycle: a card is dirty again and again while an old object on it has what is not old, whatever colour that has; once that is old the card is clean.
func TestAgain(t *testing.T) {
	for _, y := range []api.Head{{N: 7, Mark: 2}, {N: 7, Mark: 3}, {N: 7, Mark: 3, Done: true}} {
		x := plain([]api.Page{small(1), small(2)}).has(40, y).leads(28, 2, 40).dirty(1, true)
		for epoch := 3; epoch < 7; epoch++ {
			x = x.runs(t, fmt.Sprint("Epoch ", epoch))
			if !slices.Equal(x.H.Cards, []bool{false, true, false, false}) || x.white(40) {
				t.Fatalf("Epoch %d: %v", epoch, x.H)
			}
			x.C = api.Col{Phase: api.Scan, Epoch: epoch + 1}
		}
		y.Old = true
		if x = x.has(40, y).runs(t, "old"); slices.Contains(x.H.Cards, true) || len(x.C.Work) > 0 {
			t.Errorf("old: %v, %v", x.H.Cards, x.C)
		}
	}
}

// P17.2: what is not on a dirty card is not gone through: what such an old object has stays white; so does what one has that is not old itself, also on a dirty card.
func TestNotThrough(t *testing.T) {
	x := plain([]api.Page{small(1), small(1)}).makeYoung(24, 32, 36, 40).leads(16, 0, 32).leads(24, 1, 36).leads(28, 2, 40).dirty(1, true)
	want, steps := x.scanned()
	for range steps {
		x = step(x)
	}
	if !same(x, want) || !slices.Equal(x.C.Work, []int{40}) || !slices.Equal(x.H.Cards, []bool{false, true, false, false}) || !x.white(32) || !x.white(36) || x.white(40) {
		t.Errorf("%v, %v", x.C, x.H.Cards)
	}
}

// P17.2: where a card is written to while it is gone through it stays dirty, also if nothing was met on it.
func TestWrittenTo(t *testing.T) {
	x := plain([]api.Page{small(1), small(1)}).makeYoung(40).dirty(0, true)
	for range 6 { // the card is clean, 16 is At, its three fields; 20 is At
		x = step(x)
	}
	if x.C.At != 20 || x.H.Cards[0] || x.C.Met {
		t.Fatalf("%v, %v", x.C, x.H.Cards)
	}
	x = x.leads(16, 1, 40).dirty(0, true).marked(40)
	for x.C.Card == 0 && x.C.Phase == api.Scan {
		x = step(x)
	}
	if !x.H.Cards[0] || x.C.Met || x.C.Card != 1 || x.C.Seek != 0 {
		t.Errorf("%v, %v", x.C, x.H.Cards)
	}
}

// P17.2: the greatest heaps: of 64 pages, all of whose cards are dirty; each object but the first ones has the one ahead, and some are not old; and of large ones alone.
func TestGreatest(t *testing.T) {
	finish := func(name string, x state) state {
		want, steps := x.scanned()
		for range steps {
			if x.C.Phase != api.Scan {
				t.Fatalf("%s: %v; there should be %d steps", name, x.C, steps)
			}
			x = step(x)
		}
		if !same(x, want) || len(x.untold()) > 0 || len(x.whites()) > 0 {
			t.Errorf("%s: %v", name, x.C)
		}
		return x
	}
	for name, l := range map[string][]api.Page{
		"large ones": slices.Repeat(run(4), 16), "all kinds": slices.Repeat(slices.Concat(run(4), []api.Page{small(0), small(1), small(2), {}}), 8),
	} {
		x := plain(l)
		all := x.objects()
		for i, a := range all[1:] {
			x.H.W[a-15] = all[i]
			if i%3 == 0 {
				x.H.W[all[i]-16] -= 2 // it is old no more
			}
		}
		for card := range x.H.Cards {
			x.H.Cards[card] = true
		}
		if x = finish(name, x); len(x.C.Work) != 4 || !x.C.Over {
			t.Errorf("%s: %v", name, x.C)
		}
	}
	finish("no cells", empty(64))
}
