package class_test

import (
	"math"
	"testing"

	"ragpicker/api"
	"ragpicker/class"
)

// tooFew and tooMany are numbers of fields that no object has: next to those that one has, and so far off that a sum or a product has no room.
var (
	tooFew  = []int{0, -1, -2, -3, -8, -15, -16, -63, -64, math.MinInt32, -1 << 60, math.MinInt + 1, math.MinInt}
	tooMany = []int{64, 65, 79, 80, 127, 128, 1024, 1 << 31, 1<<32 + 1, 1<<32 + 8, 1 << 60, math.MaxInt - 16, math.MaxInt - 15, math.MaxInt - 1, math.MaxInt}
)

// noClasses are numbers that are no class's, 3 (large) among them.
var noClasses = []int{-1, -2, -3, 3, 4, 5, 8, 16, 64, 256, 1 << 8, 1 << 32, 1<<32 + 1, 1 << 60, math.MinInt, math.MinInt + 1, math.MinInt + 2, math.MaxInt - 1, math.MaxInt}

// known are the edges that the document names, and those that follow from its words: up to which number of fields objects are of a class, and up to which one they take so many pages.
var known = []struct{ from, to, class, pages int }{
	{1, 1, 0, 0}, {2, 3, 1, 0}, {4, 7, 2, 0}, {8, 15, 3, 1}, {16, 31, 3, 2}, {32, 47, 3, 3}, {48, 63, 3, 4},
}

// P3.1: each number of fields has the class that the edges tell.
func TestOf(t *testing.T) {
	next := 1
	for _, k := range known {
		if k.from != next {
			t.Fatalf("%d is in no row", next)
		}
		for fields := k.from; fields <= k.to; fields++ {
			if got, e := class.Of(fields); got != k.class || e != api.OK {
				t.Errorf("Of(%d): %d, %d; want %d", fields, got, e, k.class)
			}
		}
		next = k.to + 1
	}
	if next != api.MaxFields+1 {
		t.Fatalf("%d is in no row", next)
	}
}

// P3.1: what has too few fields, or too many, is of no class.
func TestOfWrong(t *testing.T) {
	for _, fields := range tooFew {
		if got, e := class.Of(fields); got != 0 || e != api.ErrArg {
			t.Errorf("Of(%d): %d, %d; want 0, ErrArg", fields, got, e)
		}
	}
	for _, fields := range tooMany {
		if got, e := class.Of(fields); got != 0 || e != api.ErrLong {
			t.Errorf("Of(%d): %d, %d; want 0, ErrLong", fields, got, e)
		}
	}
}

// P3.1: the three classes' cells, and how many of them fill a page.
func TestWordsAndCells(t *testing.T) {
	for c, want := range []struct{ words, cells int }{{2, 8}, {4, 4}, {8, 2}} {
		if got := class.Words(c); got != want.words {
			t.Errorf("Words(%d): %d; want %d", c, got, want.words)
		}
		if got := class.Cells(c); got != want.cells {
			t.Errorf("Cells(%d): %d; want %d", c, got, want.cells)
		}
		if class.Words(c)*class.Cells(c) != api.PageWords {
			t.Errorf("the cells of class %d do not fill a page", c)
		}
	}
}

// P3.1: there are no cells of what is no class, 3 included.
func TestNoClass(t *testing.T) {
	for _, c := range noClasses {
		if words, cells := class.Words(c), class.Cells(c); words != 0 || cells != 0 {
			t.Errorf("of class %d: Words %d, Cells %d; want 0, 0", c, words, cells)
		}
	}
}

// P3.2: how many pages what is large takes; what is small takes none.
func TestRun(t *testing.T) {
	for _, k := range known {
		want := api.OK
		if k.pages == 0 {
			want = api.ErrNone
		}
		for fields := k.from; fields <= k.to; fields++ {
			if got, e := class.Run(fields); got != k.pages || e != want {
				t.Errorf("Run(%d): %d, %d; want %d, %d", fields, got, e, k.pages, want)
			}
		}
	}
}

// P3.2: Run's errors are Of's, where Of has one.
func TestRunWrong(t *testing.T) {
	for _, fields := range tooFew {
		if got, e := class.Run(fields); got != 0 || e != api.ErrArg {
			t.Errorf("Run(%d): %d, %d; want 0, ErrArg", fields, got, e)
		}
	}
	for _, fields := range tooMany {
		if got, e := class.Run(fields); got != 0 || e != api.ErrLong {
			t.Errorf("Run(%d): %d, %d; want 0, ErrLong", fields, got, e)
		}
	}
}

// room is how many words there are for an object with so many fields: a cell, or its pages.
func room(t *testing.T, fields int) int {
	t.Helper()
	c, e := class.Of(fields)
	if e != api.OK {
		t.Fatalf("Of(%d): %d", fields, e)
	}
	if c != api.Classes {
		return class.Words(c)
	}
	pages, e := class.Run(fields)
	if e != api.OK || pages < 1 || pages > api.MaxRun {
		t.Fatalf("Run(%d): %d, %d", fields, pages, e)
	}
	return pages * api.PageWords
}

// P3.3: what fits has room: a word for the head, and one for each field.
func TestHasRoom(t *testing.T) {
	for fields := 1; fields <= api.MaxFields; fields++ {
		if got := room(t, fields); got < fields+1 {
			t.Errorf("%d fields have %d words", fields, got)
		}
	}
}

// P3.3: it would have none in a lesser class, nor, if it is large, in any class, or a page less.
func TestNoneInLesser(t *testing.T) {
	for fields := 1; fields <= api.MaxFields; fields++ {
		c, _ := class.Of(fields)
		for lesser := range c {
			if class.Words(lesser) >= fields+1 {
				t.Errorf("%d fields, of class %d, have room in class %d", fields, c, lesser)
			}
		}
		if pages, e := class.Run(fields); e == api.OK && (pages-1)*api.PageWords >= fields+1 {
			t.Errorf("%d fields have room in fewer pages than %d", fields, pages)
		}
	}
}

// P3.3: more fields take no less room, and are of no lesser class.
func TestMoreTakeNoLess(t *testing.T) {
	words, least := 0, 0
	for fields := 1; fields <= api.MaxFields; fields++ {
		c, _ := class.Of(fields)
		if got := room(t, fields); got < words || c < least {
			t.Errorf("%d fields: %d words, class %d; one less: %d, class %d", fields, got, c, words, least)
		} else {
			words, least = got, c
		}
	}
}

// R5: what is asked again is answered alike, whatever was asked between.
func TestAskedAgain(t *testing.T) {
	type told struct {
		class, run, words, cells int
		e, e2                    api.Errno
	}
	ask := func(n int) told {
		var a told
		a.class, a.e = class.Of(n)
		a.run, a.e2 = class.Run(n)
		a.words, a.cells = class.Words(n), class.Cells(n)
		return a
	}
	var first []told
	for n := -5; n < 70; n++ {
		first = append(first, ask(n))
	}
	for n := 69; n >= -5; n-- {
		if again := ask(n); again != first[n+5] {
			t.Errorf("of %d: %v, then %v", n, first[n+5], again)
		}
	}
}

// The chapter's examples.
func TestExamples(t *testing.T) {
	for fields, want := range map[int]struct{ class, pages int }{3: {1, 0}, 7: {2, 0}, 8: {3, 1}, 16: {3, 2}} {
		c, e := class.Of(fields)
		pages, _ := class.Run(fields)
		if c != want.class || pages != want.pages || e != api.OK {
			t.Errorf("%d fields: class %d, %d pages, %d; want %v", fields, c, pages, e, want)
		}
	}
}
