package code_test

import (
	"fmt"
	"math"
	"regexp"
	"slices"
	"strconv"
	"strings"
	"testing"

	"ragpicker/api"
	"ragpicker/code"
)

// far are numbers so far off that they would be right, if fewer bits of them were looked at, or a sum of them wraps.
var far = []int{
	math.MinInt, math.MinInt + 1, math.MinInt + 7, math.MinInt32, -1 << 32, -1<<32 + 5, -1<<16 + 1, -1000, -999, -256, -255, -10, -2,
	1 << 10, 1 << 16, 1<<16 + 3, 1 << 32, 1<<32 + 6, 1<<32 + 999, 1 << 62, math.MaxInt - 999, math.MaxInt,
}

// edges are the numbers at which something changes, far ones, and some between.
var edges = append([]int{-1, 0, 1, 2, 7, 9, 10, 11, 42, 99, 100, 101, 256, 500, 998, 999, 1000, 1001}, far...)

// right are the edges that may stand in a word.
var right = []int{0, 1, 2, 7, 9, 10, 11, 42, 99, 100, 101, 256, 500, 998, 999}

// wrongKinds are numbers that are no Kind.
var wrongKinds = append([]int{-1, -2, 7, 8, 9, 14, 200, 256, 256 + 3, 'n', '→', '#'}, far...)

// formats say again, Kind by Kind, what the chapter says of words.
var formats = []string{"n%d,%d", "→%d,%d,%d", "←%d,%d,%d", "∅%d", "≡%d,%d", "#%d", "×"}

// signs are those of all kinds, written out byte by byte.
var signs = []string{"\x6e", "\xe2\x86\x92", "\xe2\x86\x90", "\xe2\x88\x85", "\xe2\x89\xa1", "\x23", "\xc3\x97"}

// stand is how many numbers stand in the word of a Kind.
func stand(kind int) int { return strings.Count(formats[kind], "%d") }

// sayMay says again what the chapter says of operations that may be.
func sayMay(x api.Op) bool {
	if x.Kind < 0 || x.Kind > 6 {
		return false
	}
	stands := map[int]int{0: 2, 1: 3, 2: 3, 3: 1, 4: 2, 5: 1, 6: 0}[x.Kind]
	n := []int{x.A, x.B, x.C}
	return !slices.ContainsFunc(n[:stands], func(n int) bool { return n < 0 || n > 999 }) &&
		!slices.ContainsFunc(n[stands:], func(n int) bool { return n != 0 })
}

// sayWord is the word of an operation that may be.
func sayWord(x api.Op) string {
	n := []any{x.A, x.B, x.C}
	return fmt.Sprintf(formats[x.Kind], n[:stand(x.Kind)]...)
}

// sayWrite is the text of operations that may be.
func sayWrite(l []api.Op) string {
	var words []string
	for _, x := range l {
		words = append(words, sayWord(x))
	}
	return strings.Join(words, " ")
}

// aWord is what a word looks like.
var aWord = func() *regexp.Regexp {
	n := "(0|[1-9][0-9]{0,2})"
	return regexp.MustCompile("^(?:" + strings.Join([]string{
		"(n)" + n + "," + n, "(→)" + n + "," + n + "," + n, "(←)" + n + "," + n + "," + n, "(∅)" + n, "(≡)" + n + "," + n, "(#)" + n, "(×)",
	}, "|") + ")$")
}()

// sayParse says again, in another way, what operations a text has, and whether it has some.
func sayParse(s string) ([]api.Op, bool) {
	var l []api.Op
	if s == "" {
		return l, true
	}
	words := strings.Split(s, " ")
	if len(words) > 200 {
		return nil, false
	}
	for _, word := range words {
		parts := aWord.FindStringSubmatch(word)
		if parts == nil {
			return nil, false
		}
		parts = slices.DeleteFunc(parts[1:], func(p string) bool { return p == "" })
		var n [3]int
		for i, p := range parts[1:] {
			n[i], _ = strconv.Atoi(p)
		}
		l = append(l, api.Op{Kind: slices.Index(signs, parts[0]), A: n[0], B: n[1], C: n[2]})
	}
	return l, true
}

// eachOp hands on operations of all kinds, and of none, with all of those numbers at all places.
func eachOp(kinds, numbers []int, do func(api.Op)) {
	for _, kind := range kinds {
		for _, a := range numbers {
			for _, b := range numbers {
				for _, c := range numbers {
					do(api.Op{Kind: kind, A: a, B: b, C: c})
				}
			}
		}
	}
}

// allKinds are all there are.
var allKinds = []int{api.New, api.Load, api.Store, api.Drop, api.Same, api.Size, api.Exit}

// some are n operations that may be, of all kinds, with numbers of one to three digits.
func some(n int) []api.Op {
	var l []api.Op
	for i := range n {
		x := [3]int{right[i%len(right)], right[i*7%len(right)], i * 37 % 1000}
		kind := i * 5 % api.Ops
		for k := stand(kind); k < 3; k++ {
			x[k] = 0
		}
		l = append(l, api.Op{Kind: kind, A: x[0], B: x[1], C: x[2]})
	}
	return l
}

// wrongOps are operations that may not be: of each Kind one with each number that is too small, or too great, or where none stands; and of no Kind.
func wrongOps() []api.Op {
	l := []api.Op{{Kind: -1}, {Kind: 7}, {Kind: math.MinInt}, {Kind: math.MaxInt, A: 1}, {Kind: 1 << 32}}
	for _, kind := range allKinds {
		for k := range 3 {
			for _, n := range []int{-1, 1000, math.MinInt, math.MaxInt, 1 << 32} {
				l = append(l, with(kind, k, n))
			}
			if k >= stand(kind) {
				l = append(l, with(kind, k, 1), with(kind, k, 999))
			}
		}
	}
	return l
}

// with is an operation whose numbers are 0, but one.
func with(kind, k, n int) api.Op {
	var x [3]int
	x[k] = n
	return api.Op{Kind: kind, A: x[0], B: x[1], C: x[2]}
}

// checkOp asks May and Word of an operation.
func checkOp(t *testing.T, x api.Op) {
	t.Helper()
	may, want, e := sayMay(x), "", api.ErrArg
	if may {
		want, e = sayWord(x), api.OK
	}
	if got := code.May(x); got != may {
		t.Fatalf("May of %v: %t", x, got)
	}
	if got, gotE := code.Word(x); got != want || gotE != e {
		t.Fatalf("Word of %v: %q, %d; want %q, %d", x, got, gotE, want, e)
	}
}

// P13.1: May and Word of all kinds, with each number at each place.
func TestMayAndWord(t *testing.T) {
	eachOp(allKinds, edges, func(x api.Op) { checkOp(t, x) })
}

// P13.1: May and Word of what is no Kind.
func TestMayAndWordOfNoKind(t *testing.T) {
	eachOp(wrongKinds, []int{-1, 0, 1, 9, 999, 1000, math.MaxInt}, func(x api.Op) { checkOp(t, x) })
}

// P13.1: each number there may be, at each place of each Kind, alone and beside others.
func TestEachNumber(t *testing.T) {
	for _, kind := range allKinds {
		for n := -3; n < 1100; n++ {
			for k := range 3 {
				checkOp(t, with(kind, k, n))
			}
			x := api.Op{Kind: kind, A: n}
			if stand(kind) > 1 {
				x.B = 999 - n
			}
			if stand(kind) > 2 {
				x.C = n * 7 % 1000
			}
			checkOp(t, x)
		}
	}
}

// P13.1: May at the edges of each number, by hand.
func TestMayByHand(t *testing.T) {
	for _, c := range []struct {
		x    api.Op
		want bool
	}{
		{api.Op{}, true},
		{api.Op{Kind: -1}, false},
		{api.Op{Kind: api.Ops}, false},
		{api.Op{Kind: api.New, A: 999, B: 999}, true},
		{api.Op{Kind: api.New, A: 1000}, false},
		{api.Op{Kind: api.New, B: 1000}, false},
		{api.Op{Kind: api.New, A: -1}, false},
		{api.Op{Kind: api.New, B: -1}, false},
		{api.Op{Kind: api.New, C: 1}, false},
		{api.Op{Kind: api.New, C: -1}, false},
		{api.Op{Kind: api.Load, A: 999, B: 999, C: 999}, true},
		{api.Op{Kind: api.Load, C: 1000}, false},
		{api.Op{Kind: api.Load, C: -1}, false},
		{api.Op{Kind: api.Store, A: 999, B: 999, C: 999}, true},
		{api.Op{Kind: api.Store, B: 1000}, false},
		{api.Op{Kind: api.Drop, A: 999}, true},
		{api.Op{Kind: api.Drop, A: 1000}, false},
		{api.Op{Kind: api.Drop, B: 1}, false},
		{api.Op{Kind: api.Drop, C: -1}, false},
		{api.Op{Kind: api.Same, A: 999, B: 999}, true},
		{api.Op{Kind: api.Same, C: 1}, false},
		{api.Op{Kind: api.Size, A: 999}, true},
		{api.Op{Kind: api.Size, B: 999}, false},
		{api.Op{Kind: api.Exit}, true},
		{api.Op{Kind: api.Exit, A: 1}, false},
		{api.Op{Kind: api.Exit, B: 1}, false},
		{api.Op{Kind: api.Exit, C: -1}, false},
	} {
		if got := code.May(c.x); got != c.want {
			t.Errorf("%v: %t", c.x, got)
		}
	}
}

// P13.1: words by hand, byte by byte.
func TestWordByHand(t *testing.T) {
	for _, c := range []struct {
		x    api.Op
		want string
	}{
		{api.Op{}, "n0,0"},
		{api.Op{Kind: api.New, A: 3, B: 63}, "\x6e3,63"},
		{api.Op{Kind: api.New, A: 10, B: 100}, "\x6e10,100"},
		{api.Op{Kind: api.Load, A: 1, B: 2, C: 3}, "\xe2\x86\x921,2,3"},
		{api.Op{Kind: api.Load, A: 0, B: 99, C: 999}, "\xe2\x86\x920,99,999"},
		{api.Op{Kind: api.Store, A: 3, B: 2, C: 1}, "\xe2\x86\x903,2,1"},
		{api.Op{Kind: api.Store, A: 101, B: 20, C: 0}, "\xe2\x86\x90101,20,0"},
		{api.Op{Kind: api.Drop}, "\xe2\x88\x850"},
		{api.Op{Kind: api.Drop, A: 999}, "\xe2\x88\x85999"},
		{api.Op{Kind: api.Same, A: 0, B: 1}, "\xe2\x89\xa10,1"},
		{api.Op{Kind: api.Same, A: 900, B: 90}, "\xe2\x89\xa1900,90"},
		{api.Op{Kind: api.Size, A: 2}, "\x232"},
		{api.Op{Kind: api.Size, A: 10}, "\x2310"},
		{api.Op{Kind: api.Exit}, "\xc3\x97"},
	} {
		if got, e := code.Word(c.x); got != c.want || e != api.OK {
			t.Errorf("%v: %q, %d; want %q", c.x, got, e, c.want)
		}
	}
}

// P13.1, R4: no word of what may not be.
func TestWordOfWrong(t *testing.T) {
	for _, x := range wrongOps() {
		if got, e := code.Word(x); got != "" || e != api.ErrArg {
			t.Errorf("%v: %q, %d", x, got, e)
		}
	}
}

// checkWrite asks Write of operations that may be, and Parse of what it tells.
func checkWrite(t *testing.T, l []api.Op) {
	t.Helper()
	s, e := code.Write(l)
	if want := sayWrite(l); s != want || e != api.OK {
		t.Fatalf("Write of %v: %q, %d; want %q", l, s, e, want)
	}
	if got, e := code.Parse(s); !slices.Equal(got, l) || e != api.OK {
		t.Fatalf("Parse of %q: %v, %d; want %v", s, got, e, l)
	}
}

// checkParse asks Parse of a text, and Write of what it tells.
func checkParse(t *testing.T, s string) {
	t.Helper()
	want, is := sayParse(s)
	if !is {
		checkNone(t, s)
		return
	}
	got, e := code.Parse(s)
	if !slices.Equal(got, want) || e != api.OK {
		t.Fatalf("Parse of %.999q: %v, %d; want %v", s, got, e, want)
	}
	if back, e := code.Write(got); back != s || e != api.OK {
		t.Fatalf("Write of what Parse told of %.999q: %q, %d", s, back, e)
	}
}

// checkNone asks Parse of a text that has no list.
func checkNone(t *testing.T, s string) {
	t.Helper()
	if got, e := code.Parse(s); len(got) != 0 || e != api.ErrForm {
		t.Fatalf("Parse of %.999q: %v, %d; want none, %d", s, got, e, api.ErrForm)
	}
}

// P13.2, P13.3: no operations, one of each that may be, several, and as many as there may be: written, and parsed again.
func TestWriteAndParse(t *testing.T) {
	checkWrite(t, nil)
	checkWrite(t, []api.Op{})
	eachOp(allKinds, []int{0, 1, 9, 10, 99, 100, 999}, func(x api.Op) {
		if sayMay(x) {
			checkWrite(t, []api.Op{x})
			checkWrite(t, []api.Op{x, x, {Kind: api.Exit}, x})
		}
	})
	for n := range 201 {
		checkWrite(t, some(n))
		checkWrite(t, slices.Repeat([]api.Op{{Kind: n % api.Ops}}, n))
	}
	checkWrite(t, slices.Repeat([]api.Op{{Kind: api.Store, A: 999, B: 999, C: 999}}, 200))
}

// P13.2: texts by hand, and their operations.
func TestWriteAndParseByHand(t *testing.T) {
	for s, l := range map[string][]api.Op{
		"":                                 {},
		"×":                                {{Kind: api.Exit}},
		"× ×":                              {{Kind: api.Exit}, {Kind: api.Exit}},
		"n0,3 ←0,1,2 ×":                    {{Kind: api.New, B: 3}, {Kind: api.Store, A: 0, B: 1, C: 2}, {Kind: api.Exit}},
		"→1,2,3 ←4,5,6":                    {{Kind: api.Load, A: 1, B: 2, C: 3}, {Kind: api.Store, A: 4, B: 5, C: 6}},
		"≡7,8 #9 ∅10 n11,12":               {{Kind: api.Same, A: 7, B: 8}, {Kind: api.Size, A: 9}, {Kind: api.Drop, A: 10}, {Kind: api.New, A: 11, B: 12}},
		"n999,999 →999,0,999 #100 ∅0 ≡0,0": {{Kind: api.New, A: 999, B: 999}, {Kind: api.Load, A: 999, C: 999}, {Kind: api.Size, A: 100}, {Kind: api.Drop}, {Kind: api.Same}},
	} {
		if got, e := code.Write(l); got != s || e != api.OK {
			t.Errorf("%v: %q, %d; want %q", l, got, e, s)
		}
		if got, e := code.Parse(s); !slices.Equal(got, l) || e != api.OK {
			t.Errorf("%q: %v, %d; want %v", s, got, e, l)
		}
	}
}

// P13.2: one operation that may not be, at the first, a middle, and the last place.
func TestWriteWrong(t *testing.T) {
	for _, x := range wrongOps() {
		for _, n := range []int{1, 2, 3, 7, 100, 200} {
			for _, at := range []int{0, n / 2, n - 1} {
				l := some(n)
				l[at] = x
				if s, e := code.Write(l); s != "" || e != api.ErrArg {
					t.Fatalf("%v at %d of %d: %q, %d", x, at, n, s, e)
				}
			}
		}
	}
}

// P13.2, R2: too many operations, also where one, or all, of them may not be.
func TestWriteTooMany(t *testing.T) {
	for _, n := range []int{201, 202, 256, 400, 1000, 1 << 16, 1<<16 + 1} {
		l := some(n)
		if s, e := code.Write(l); s != "" || e != api.ErrLong {
			t.Errorf("%d: %q, %d", n, s, e)
		}
		for _, at := range []int{0, n / 2, 199, 200, n - 1} {
			for _, x := range []api.Op{{Kind: -1}, {Kind: api.New, A: 1000}, {Kind: api.Exit, C: 1}} {
				l := some(n)
				l[at] = x
				if s, e := code.Write(l); s != "" || e != api.ErrLong {
					t.Errorf("%v at %d of %d: %q, %d", x, at, n, s, e)
				}
			}
		}
		if s, e := code.Write(slices.Repeat([]api.Op{{Kind: 7}}, n)); s != "" || e != api.ErrLong {
			t.Errorf("%d that may not be: %q, %d", n, s, e)
		}
	}
}

// P13.2: 200 words are parsed, 201 are not, of whatever kind they are; nor are as many with something wrong.
func TestParseMany(t *testing.T) {
	for _, x := range append(some(30), wordsOfKinds()...) {
		word := sayWord(x)
		for n := 195; n <= 200; n++ {
			checkParse(t, strings.Join(slices.Repeat([]string{word}, n), " "))
		}
		for _, n := range []int{201, 202, 256, 400, 1000, 1 << 16} {
			checkNone(t, strings.Join(slices.Repeat([]string{word}, n), " "))
		}
	}
	for _, n := range []int{199, 200, 201} {
		s := sayWrite(some(n))
		for _, s := range []string{s + " ", " " + s, s + ",", s + "0,", strings.Replace(s, " ", "  ", 1), s + " n", s + "\n"} {
			checkNone(t, s)
		}
	}
}

// wordsOfKinds are operations, one of each Kind.
func wordsOfKinds() []api.Op {
	return []api.Op{{Kind: 0, B: 3}, {Kind: 1, A: 2, B: 1}, {Kind: 2, A: 12, B: 345, C: 6}, {Kind: 3, A: 1}, {Kind: 4, A: 10, B: 20}, {Kind: 5, A: 100}, {Kind: 6}}
}

// wrongWords are texts that are no word.
func wrongWords() []string {
	l := []string{
		"?", "x", "N0,3", "n", "n,", "n,,", "n0", "n0,", "n,0", "n,1,2", "n0,,3", "n0,3,", "n0,3,4", "n0,3,0", "n0,3,4,5", ",n0,3", "nn0,3", "n0n,3", "n0,n3", "0,3n", "0,3", "0", ",", ",,", "03", "3,4,5",
		"n00,3", "n0,00", "n01,3", "n0,03", "n0,003", "n007,1", "n0,1000", "n1000,0", "n0,9999", "n10000,1", "n0,999999999999999999", "n0,18446744073709551616", "n0,18446744073709551619", "n18446744073709551617,3", "n9223372036854775808,0", "n0,9223372036854775807", "n0,-9223372036854775808", "n0,340282366920938463463374607431768211459", "n4294967296,4294967299", "n65536,256",
		"n+0,3", "n0,+3", "n-0,3", "n0,-3", "n-1,3", "n0,3-", "n0.0,3", "n0,3.0", "n0,3e0", "n0x0,3", "n0,1_0", "n0,'3'", "n0;3", "n0·3", "n0，3", "n0、3", "n(0,3)", "n=0,3", "n0,3;", "n0:3",
		"n０,3", "n0,３", "n٠,٣", "n0,³", "n0,Ⅲ", "n०,३", "n0,①", "n0,𝟛", "n0,/", "n0,:", "n/,3", "n:,3", "n0,\x2f\x3a",
		"n\t0,3", "n0,\t3", "n0,3\t", "\tn0,3", "n0,3\n", "\nn0,3", "n0\n,3", "n0,3\r", "n0,3\r\n", "n0,3\v", "n0,3\f", "n0,3\u00a0", "\u00a0n0,3", "n0,3\u2003", "n0,3\u3000", "\u2028n0,3", "n0,3\u0085", "\ufeffn0,3", "n\u200b0,3", "n0,3\u200d",
		"n0,3\x00", "\x00n0,3", "n\x000,3", "n0,\x003", "\x00", "n0\x003", "\x000,3",
		"→", "→0", "→0,1", "→0,1,", "→0,1,2,", "→0,1,2,3", "→,1,2", "→0,,2", "→00,1,2", "→0,01,2", "→0,1,02", "→0,1,1000", "→→0,1,2", "→0,1→,2", "→0,1,2×", "→-1,0,0", "⇒0,1,2", "->0,1,2", "➔0,1,2", "→\ufe0f0,1,2", "↔0,1,2", "↑0,1,2",
		"←", "←0", "←0,1", "←0,1,2,", "←0,1,2,0", "←,,", "←0,1,002", "←→0,1,2", "←0,1,12345", "<-0,1,2", "<0,1,2",
		"∅", "∅,", "∅0,", "∅0,0", "∅0,1", "∅00", "∅01", "∅1000", "∅∅0", "∅-0", "Ø0", "⌀0", "ø0",
		"≡", "≡0", "≡0,", "≡0,0,", "≡0,0,0", "≡,0", "≡00,1", "≡1,1000", "=0,0", "==0,0", "≣0,0", "≢0,0", "≡\u03380,0",
		"#", "#,", "#0,", "#0,0", "#00", "#000", "#0000000000000000000000", "#1000", "#0999", "##0", "#-1", "#+1", "＃0", "♯0",
		"×0", "×,", "×,,", "×0,0", "×0,0,0", "××", "x", "X", "✕", "✖", "⨯", "×\u0338", "×n", "n0,3×", "×n0,3", "#0#1", "n0,3n1,2", "n0,3,n1,2", "n0,3\tn1,2", "n0,3,×", "n0,3|×", "n0,3\u00a0×", "n0,3\n×",
		"\ufffd", "\ufffd0,3", "n\ufffd,3", "n0,\ufffd", "n0\ufffd3", "n0,3\ufffd", "\ufffd1,2,3",
		"\x80", "\xff", "\xfe\xff", "n0,3\x80", "n0,3\xff", "\xc3", "\xe2", "n\xff,3", "n0\xc33", "n0,\x973", "\xc1\xae0,3", "\xe0\x81\xae0,3", "\xf0\x80\x81\xae0,3", "n\xc0\xb0,3", "n0\xc0\xac3", "n0,3\xc0\xa0×", "\xe0\x83\x97", "\xed\xa0\x80", "\xf4\x90\x80\x80",
	}
	return l
}

// P13.2: words that are none: alone, at the first, a middle, and the last place.
func TestParseWrongWords(t *testing.T) {
	for _, w := range wrongWords() {
		for _, s := range []string{w, w + " ×", "× " + w, "× " + w + " ×", "n0,3 #0 " + w + " ←0,1,2", strings.Repeat("#0 ", 199) + w, w + strings.Repeat(" #0", 199)} {
			checkNone(t, s)
		}
	}
}

// P13.2: signs of which a byte is missing, or another one, or which are cut at each of their bytes, or have one of another sign's behind them.
func TestParseSignsCut(t *testing.T) {
	for kind, sign := range signs {
		rest := sayWord(wordsOfKinds()[kind])[len(sign):]
		var wrong []string
		for i := range len(sign) {
			wrong = append(wrong, sign[:i], sign[i+1:], sign[:i]+sign[i+1:], sign[:i]+" "+sign[i:], sign[:i]+"\x00"+sign[i:], sign[:i+1]+"\x80", sign+sign[i:i+1])
		}
		for _, other := range signs {
			for i := range len(sign) {
				for j := range len(other) {
					wrong = append(wrong, sign[:i]+other[j:])
				}
			}
			wrong = append(wrong, sign+other, other+sign)
		}
		for _, w := range wrong {
			for _, s := range []string{w, w + rest, "× " + w + rest, w + rest + " ×"} {
				checkParse(t, s) // some are words again, of another sign
			}
		}
		if len(sign) == 1 {
			continue
		}
		for i := 1; i < len(sign); i++ {
			for _, s := range []string{sign[:i], sign[i:], sign[:i] + rest, sign[i:] + rest, "× " + sign[:i], sign[:i] + " ×", sign[:i] + " " + sign[i:] + rest} {
				checkNone(t, s)
			}
		}
	}
}

// P13.2: each rune there is, as a sign, as a digit, as a comma, and as a blank: those alone that are these have a list.
func TestParseEachRune(t *testing.T) {
	for r := rune(0); r <= 0x10ffff; r++ {
		if r > 0x3400 && r%5 != 0 && r < 0xf900 || r > 0x10000 && r%17 != 0 {
			continue // a part of those that are far from what stands in words
		}
		c := string(r)
		_, is := sayParse(c + "1,2")
		if is != (c == "n" || c == "≡") {
			t.Fatalf("%q", c)
		}
		for _, s := range []string{c, c + "1", c + "1,2", c + "1,2,3", "n" + c + ",3", "n1" + c + ",3", "n1" + c + "2", "n1,2" + c, "n1,2" + c + "#3", "×" + c + "×"} {
			want, is := sayParse(s)
			if got, e := code.Parse(s); !slices.Equal(got, want) || (e == api.OK) != is || !is && e != api.ErrForm {
				t.Fatalf("%q: %v, %d; want %v", s, got, e, want)
			}
		}
	}
}

// P13.2: blanks that are too many, and other white space in place of them.
func TestParseBlanks(t *testing.T) {
	for _, s := range []string{" ", "  ", "   ", " ×", "× ", " × ", "×  ×", "× × ", " × ×", "×   ×", "n0,3  #0", "n0,3 #0 ", " n0,3 #0", "n 0,3", "n0 ,3", "n0, 3", "n0,3 ,", ", n0,3", "# 0", "→0,1 ,2", "∅ 0", strings.Repeat(" ", 199), strings.Repeat(" ", 200), strings.Repeat(" ", 201), strings.Repeat("  ×", 100)} {
		checkNone(t, s)
	}
	for _, white := range []string{"\t", "\n", "\v", "\f", "\r", "\r\n", "\u0085", "\u00a0", "\u1680", "\u2000", "\u2003", "\u2009", "\u200b", "\u2028", "\u2029", "\u202f", "\u205f", "\u3000", "\ufeff", "\x00", "_", "\u2423"} {
		for _, s := range []string{white, "×" + white + "×", white + "×", "×" + white, "× " + white + "×", "×" + white + " ×", "n0,3" + white + "#0", "n" + white + "0,3"} {
			checkNone(t, s)
		}
	}
}

// P13.2, R7: numbers of many digits, in each place: of one to three they are numbers, if no 0 leads; longer ones, also such that leave 64 bits, or would be right behind that, are none.
func TestParseNumbers(t *testing.T) {
	var numbers []string
	for n := range 1100 {
		numbers = append(numbers, strconv.Itoa(n), "0"+strconv.Itoa(n), "00"+strconv.Itoa(n))
	}
	for bits := range 70 {
		for _, n := range []uint64{1, 2, 3, 999} {
			numbers = append(numbers, shifted(bits, n))
		}
	}
	for n := 1; n < 90; n++ {
		numbers = append(numbers, strings.Repeat("9", n), strings.Repeat("0", n), "1"+strings.Repeat("0", n), strings.Repeat("0", n)+"1", strings.Repeat("1234567890", n))
	}
	for _, n := range numbers {
		for _, s := range []string{"#" + n, "∅" + n, "n" + n + ",3", "n3," + n, "→1,2," + n, "←1," + n + ",2", "≡" + n + "," + n, n, "×" + n} {
			checkParse(t, s)
			checkParse(t, "× "+s+" ×")
		}
	}
}

// shifted is the number 2^bits + n, by digits.
func shifted(bits int, n uint64) string {
	digits := []byte{1} // the last one first
	double := func(carry int) {
		for i := range digits {
			v := int(digits[i])*2 + carry
			digits[i], carry = byte(v%10), v/10
		}
		if carry > 0 {
			digits = append(digits, byte(carry))
		}
	}
	for range bits {
		double(0)
	}
	for i := 0; n > 0; i++ {
		if i == len(digits) {
			digits = append(digits, 0)
		}
		n += uint64(digits[i])
		digits[i], n = byte(n%10), n/10
	}
	var s strings.Builder
	for _, d := range slices.Backward(digits) {
		s.WriteByte('0' + d)
	}
	return s.String()
}

// What the tests lean on: numbers that leave 64 bits are what they should be.
func TestShifted(t *testing.T) {
	for bits, want := range map[int]string{0: "4", 3: "11", 32: "4294967299", 62: "4611686018427387907", 64: "18446744073709551619", 65: "36893488147419103235"} {
		if got := shifted(bits, 3); got != want {
			t.Errorf("%d: %s", bits, got)
		}
	}
}

// P13.2, P13.3: all short texts of what stands in words, and of what does not.
func TestParseShortTexts(t *testing.T) {
	parts := []string{"n", "→", "∅", "×", "0", "1", "9", ",", " ", "\xe2"}
	texts := []string{""}
	for range 5 {
		var longer []string
		for _, s := range texts {
			for _, p := range parts {
				longer = append(longer, s+p)
			}
		}
		texts = longer
		for _, s := range texts {
			checkParse(t, s)
		}
	}
}

// P13.2, P13.3: texts of many words, of which one byte is another one, is missing, or is there twice, or has another one beside it.
func TestParseTurned(t *testing.T) {
	for _, s := range []string{"n0,3 ←0,1,2 ×", "→10,200,9 ≡1,2 #3 ∅4 n5,60", "× × ×", "≡100,10 ∅0", sayWrite(some(9))} {
		for i := range len(s) + 1 {
			for b := range 256 {
				one := string([]byte{byte(b)})
				checkParse(t, s[:i]+one+s[i:])
				if i < len(s) {
					checkParse(t, s[:i]+one+s[i+1:])
				}
			}
			checkParse(t, s[:i])
			checkParse(t, s[i:])
			if i < len(s) {
				checkParse(t, s[:i]+s[i+1:])
				checkParse(t, s[:i+1]+s[i:])
			}
		}
	}
}

// P13.3: many lists, and many texts, put together by a rule from pieces that are right, and nearly so.
func TestParseMixed(t *testing.T) {
	pieces := append([]string{"n", "→", "←", "∅", "≡", "#", "×", "0", "1", "12", "999", "1000", "00", ",", ",", " ", " ", "-", "\xe2\x86", "\x00", "\ufffd"}, strings.Split(sayWrite(some(20)), " ")...)
	state := uint64(1)
	next := func(n int) int {
		state = state*6364136223846793005 + 1442695040888963407
		return int(state >> 33 % uint64(n))
	}
	for range 60000 {
		var s string
		for range next(7) {
			s += pieces[next(len(pieces))]
			if next(2) == 0 {
				s += " "
			}
		}
		checkParse(t, s)
		checkParse(t, strings.TrimSpace(s))
	}
	for range 20000 {
		l := some(40)
		for i := range l {
			j := next(40)
			l[i], l[j] = l[j], l[i]
		}
		checkWrite(t, l[:next(41)])
	}
}

// R1: very long texts end, and have no list.
func TestParseLong(t *testing.T) {
	const n = 1 << 20
	for _, p := range append([]string{"n", "→", "0", "9", ",", " ", "\x00", "\xff", "\ufffd", "\xe2", "n0,3", "n0,3 ", " ×", "0,", "a"}, signs...) {
		s := strings.Repeat(p, n)
		for _, s := range []string{s, "n0," + s, "#" + s, "n" + s + ",3", "× " + s, s + " ×", "→" + s, "×" + s} {
			checkNone(t, s)
		}
	}
}

// R3: what Write is handed stays as it was, also behind its end; and what stands there changes nothing.
func TestWriteHandedIn(t *testing.T) {
	for _, l := range [][]api.Op{nil, some(1), some(30), some(200), some(201), wrongOps(), {{Kind: 9}}} {
		own := append(slices.Clone(l), wrongOps()[:9]...)
		was := slices.Clone(own)
		got, e := code.Write(own[:len(l)])
		want, wantE := code.Write(slices.Clip(slices.Clone(l)))
		if got != want || e != wantE || !slices.Equal(own, was) {
			t.Errorf("%v: %q, %d; want %q, %d", l, got, e, want, wantE)
		}
		kept := strings.Clone(got)
		for i := range own {
			own[i] = api.Op{Kind: api.Exit, A: -7}
		}
		if got != kept {
			t.Errorf("%v: with it the text is changed", l)
		}
	}
}

// R3: what Parse answers is the caller's own: written over, with the room behind its end, it changes nothing of another answer, nor of later ones.
func TestParseAnswersOwn(t *testing.T) {
	for n := range 60 {
		s := sayWrite(some(n))
		first, _ := code.Parse(s)
		second, _ := code.Parse(s)
		first = first[:cap(first)]
		for i := range first {
			first[i] = api.Op{Kind: -5, A: i, B: 1000, C: -i}
		}
		third, e := code.Parse(s)
		if !slices.Equal(second, some(n)) || !slices.Equal(third, some(n)) || e != api.OK {
			t.Fatalf("%d: %v, %v", n, second, third)
		}
	}
}

// R5: what is asked again is answered alike, whatever was asked between.
func TestAskedAgain(t *testing.T) {
	l := some(7)
	s := sayWrite(l)
	for _, wrong := range wrongWords() {
		checkNone(t, wrong)
		checkNone(t, s+wrong)
		checkWrite(t, l)
	}
	for _, x := range wrongOps() {
		code.Write([]api.Op{x})
		code.Word(x)
		checkWrite(t, l)
		checkOp(t, l[3])
	}
}

// The document's example of the whole, the eighth.
func TestExample(t *testing.T) {
	l := []api.Op{{Kind: api.New, A: 0, B: 3}, {Kind: api.Store, A: 0, B: 1, C: 2}, {Kind: api.Exit}}
	s := "n0,3 ←0,1,2 ×"
	if got, e := code.Write(l); got != s || e != api.OK {
		t.Errorf("%q, %d", got, e)
	}
	if got, e := code.Parse(s); !slices.Equal(got, l) || e != api.OK {
		t.Errorf("%v, %d", got, e)
	}
}
