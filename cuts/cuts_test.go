package cuts_test

import (
	"iter"
	"math"
	"math/rand"
	"slices"
	"strconv"
	"strings"
	"testing"

	"quillpen/api"
	"quillpen/cuts"
)

// The chapter's words, told byte by byte and gap by gap.

// held is a place held within 0 and a length.
func held(place, length int) int {
	switch {
	case place < 0:
		return 0
	case place > length:
		return length
	}
	return place
}

// toldAt are a text's pieces: at each gap a new one begins for each place that is held there.
func toldAt(s string, places []int) []string {
	pieces := []string{""}
	for gap := 0; gap <= len(s); gap++ {
		for _, place := range places {
			if held(place, len(s)) == gap {
				pieces = append(pieces, "")
			}
		}
		if gap < len(s) {
			pieces[len(pieces)-1] += s[gap : gap+1]
		}
	}
	return pieces
}

// toldBy are a text's pieces: each byte goes to the piece whose turn it is, while that has room.
func toldBy(s string, sizes []int) []string {
	some := false
	for _, size := range sizes {
		some = some || size > 0
	}
	if !some || s == "" {
		return []string{s}
	}
	var pieces []string
	for {
		for _, size := range sizes {
			pieces = append(pieces, "")
			for room := size; room > 0 && s != ""; room-- {
				pieces[len(pieces)-1] += s[:1]
				s = s[1:]
			}
			if s == "" {
				return pieces
			}
		}
	}
}

// toldWays are all ways, in order: of the bits the highest one is the last place, so all ways
// without it stand ahead of the same ones with it.
func toldWays(n int) [][]int {
	if n <= 1 {
		return [][]int{{}}
	}
	without := toldWays(n - 1)
	ways := slices.Clone(without)
	for _, way := range without {
		ways = append(ways, append(slices.Clone(way), n-1))
	}
	return ways
}

// toldEach are a text's pieces, cut in all ways.
func toldEach(s string) [][]string {
	var all [][]string
	for _, way := range toldWays(len(s)) {
		all = append(all, toldAt(s, way))
	}
	return all
}

// spare is what stands behind a list's end, in memory that nobody but its owner may write into.
const spare = 77

// roomy is a list with room behind its end.
func roomy(l []int) []int {
	with := append(slices.Clone(l), spare, spare, spare)
	return with[:len(l)]
}

// wantKept asks that a list of roomy is as it was, and what is behind its end, too.
func wantKept(t *testing.T, what string, l, was []int) {
	t.Helper()
	if !slices.Equal(l, was) || !slices.Equal(l[len(l):len(l)+3], []int{spare, spare, spare}) {
		t.Fatalf("%s wrote into %v: %v", what, was, l[:len(l)+3])
	}
}

// spoil overwrites all the memory that a list reaches.
func spoil[T any](l []T, with T) {
	l = l[:cap(l)]
	for i := range l {
		l[i] = with
	}
}

// joined is what the pieces are, one behind the other.
func joined(l []string) string {
	s := ""
	for _, piece := range l {
		s += piece
	}
	return s
}

// wantPieces holds what a call answers, twice, against these pieces, and their Join against the text.
// What is answered is overwritten each time: the other answer is none the worse for it.
func wantPieces(t *testing.T, what, s string, numbers []int, call func(string, ...int) []string, want []string) {
	t.Helper()
	for range 2 {
		l := roomy(numbers)
		got := call(s, l...)
		if !slices.Equal(got, want) {
			t.Fatalf("%s(%q, %v) = %q; want %q", what, s, numbers, got, want)
		}
		wantKept(t, what, l, numbers)
		if cuts.Join(got) != s || joined(got) != s {
			t.Fatalf("%s(%q, %v) = %q, joined %q", what, s, numbers, got, cuts.Join(got))
		}
		spoil(got, "spoilt")
	}
}

func wantAt(t *testing.T, s string, places []int, want ...string) {
	t.Helper()
	wantPieces(t, "At", s, places, cuts.At, want)
}

func wantBy(t *testing.T, s string, sizes []int, want ...string) {
	t.Helper()
	wantPieces(t, "By", s, sizes, cuts.By, want)
}

// checkAt holds At against the chapter.
func checkAt(t *testing.T, s string, places []int) {
	t.Helper()
	wantAt(t, s, places, toldAt(s, places)...)
}

// checkBy holds By against the chapter.
func checkBy(t *testing.T, s string, sizes []int) {
	t.Helper()
	wantBy(t, s, sizes, toldBy(s, sizes)...)
}

// texts are short ones: of no byte, of each count up to a few, not UTF-8, with noughts and ends of line.
var texts = []string{"", "a", "ab", "abc", "abcd", "\x00\r\n\"", "é€", "\xff\xe2\x82\x80", "\xef\xbb\xbfa,b"}

// eachList hands out every list of at most so many of these numbers.
func eachList(numbers []int, most int, f func([]int)) {
	var add func(l []int)
	add = func(l []int) {
		f(l)
		if len(l) == most {
			return
		}
		for _, n := range numbers {
			add(append(l, n))
		}
	}
	add(nil)
}

// P7.1: the chapter's examples.
func TestChaptersExamples(t *testing.T) {
	wantAt(t, "abcd", []int{3, 1, 3}, "a", "bc", "", "d")
	wantBy(t, "abcd", []int{1, 2}, "a", "bc", "d")
}

// P7.1, P7.2: At, written out.
func TestAtWrittenOut(t *testing.T) {
	wantAt(t, "abc", nil, "abc")
	wantAt(t, "abc", []int{}, "abc")
	wantAt(t, "", nil, "")
	wantAt(t, "abc", []int{-1}, "", "abc")
	wantAt(t, "abc", []int{0}, "", "abc")
	wantAt(t, "abc", []int{1}, "a", "bc")
	wantAt(t, "abc", []int{2}, "ab", "c")
	wantAt(t, "abc", []int{3}, "abc", "")
	wantAt(t, "abc", []int{4}, "abc", "")
	wantAt(t, "abc", []int{2, 1}, "a", "b", "c")
	wantAt(t, "abc", []int{3, 0}, "", "abc", "")
	wantAt(t, "abc", []int{9, -9}, "", "abc", "")
	wantAt(t, "abc", []int{1, 1, 1}, "a", "", "", "bc")
	wantAt(t, "abc", []int{-2, 0, -1}, "", "", "", "abc")
	wantAt(t, "abc", []int{3, 5, 4}, "abc", "", "", "")
	wantAt(t, "abc", []int{math.MaxInt, math.MinInt}, "", "abc", "")
	wantAt(t, "", []int{0}, "", "")
	wantAt(t, "", []int{-1, 0, 1}, "", "", "", "")
	wantAt(t, "é\xff", []int{1, 2}, "\xc3", "\xa9", "\xff")
	wantAt(t, "ab", []int{2, 0, 1, 2, 0, 1, 2}, "", "", "a", "", "b", "", "", "")
}

// P7.1, P7.2: At of short texts, at every list of three places in, at the edges of and beside them.
func TestAtEveryPlaces(t *testing.T) {
	for _, s := range texts {
		numbers := []int{math.MinInt, -1, 0, 1, 2, len(s) - 1, len(s), len(s) + 1, math.MaxInt}
		eachList(numbers, 3, func(places []int) { checkAt(t, s, places) })
	}
	eachList([]int{0, 1, 2, 3}, 6, func(places []int) { checkAt(t, "abc", places) })
}

// P7.1, P7.2: By, written out.
func TestByWrittenOut(t *testing.T) {
	wantBy(t, "abc", nil, "abc")
	wantBy(t, "abc", []int{}, "abc")
	wantBy(t, "", nil, "")
	wantBy(t, "", []int{1}, "")
	wantBy(t, "", []int{0, 1}, "")
	wantBy(t, "", []int{0}, "")
	wantBy(t, "", []int{-1}, "")
	wantBy(t, "", []int{math.MaxInt}, "")
	wantBy(t, "abc", []int{0}, "abc")
	wantBy(t, "abc", []int{-1}, "abc")
	wantBy(t, "abc", []int{0, -1, math.MinInt, 0}, "abc")
	wantBy(t, "abc", []int{1}, "a", "b", "c")
	wantBy(t, "abc", []int{2}, "ab", "c")
	wantBy(t, "abc", []int{3}, "abc")
	wantBy(t, "abc", []int{4}, "abc")
	wantBy(t, "abc", []int{math.MaxInt}, "abc")
	wantBy(t, "abc", []int{1, math.MaxInt}, "a", "bc")
	wantBy(t, "abc", []int{math.MaxInt, math.MaxInt}, "abc")
	wantBy(t, "abc", []int{0, 2}, "", "ab", "", "c")
	wantBy(t, "abc", []int{2, 0}, "ab", "", "c")
	wantBy(t, "abc", []int{3, 0}, "abc")
	wantBy(t, "abc", []int{1, 0, 0, 5}, "a", "", "", "bc")
	wantBy(t, "abc", []int{math.MinInt, 2, -1}, "", "ab", "", "", "c")
	wantBy(t, "abcdefg", []int{1, 2, 0}, "a", "bc", "", "d", "ef", "", "g")
	wantBy(t, "abcdef", []int{1, 2, 0}, "a", "bc", "", "d", "ef")
	wantBy(t, "é\xff", []int{1}, "\xc3", "\xa9", "\xff")
}

// P7.1, P7.2: By of short texts, of every list of three sizes at the edges of and beside theirs.
func TestByEverySizes(t *testing.T) {
	for _, s := range texts {
		numbers := []int{math.MinInt, -1, 0, 1, 2, len(s) - 1, len(s), len(s) + 1, math.MaxInt}
		eachList(numbers, 3, func(sizes []int) { checkBy(t, s, sizes) })
	}
	eachList([]int{0, 1, 2, 3}, 5, func(sizes []int) { checkBy(t, "abcdefghij", sizes) })
}

// P7.1: Join, written out; the list stays as it was.
func TestJoin(t *testing.T) {
	for _, c := range []struct {
		l    []string
		want string
	}{
		{nil, ""},
		{[]string{}, ""},
		{[]string{""}, ""},
		{[]string{"", "", ""}, ""},
		{[]string{"abc"}, "abc"},
		{[]string{"", "abc", ""}, "abc"},
		{[]string{"a", "", "bc"}, "abc"},
		{[]string{"b", "a", "b"}, "bab"},
		{[]string{"\xc3", "\xa9", "\xff"}, "é\xff"},
	} {
		l := append(slices.Clone(c.l), "spare")[:len(c.l)]
		if got := cuts.Join(l); got != c.want {
			t.Errorf("Join(%q) = %q; want %q", c.l, got, c.want)
		}
		if !slices.Equal(l, c.l) || l[:len(l)+1][len(l)] != "spare" {
			t.Errorf("Join wrote into %q: %q", c.l, l[:len(l)+1])
		}
	}
}

// P7.1: Count from far below to far above what it tells.
func TestCount(t *testing.T) {
	want := func(n, many int, e api.Errno) {
		t.Helper()
		if got, err := cuts.Count(n); got != many || err != e {
			t.Errorf("Count(%d) = %d, %d; want %d, %d", n, got, err, many, e)
		}
	}
	for _, n := range []int{-1, -2, -16, -17, math.MinInt32, math.MinInt + 1, math.MinInt} {
		want(n, 0, api.ErrArg)
	}
	for _, n := range []int{17, 18, 63, 64, 65, 1 << 32, math.MaxInt - 1, math.MaxInt} {
		want(n, 0, api.ErrBig)
	}
	want(0, 1, api.OK)
	many := 1
	for n := 1; n <= 16; n++ {
		want(n, many, api.OK)
		many *= 2
	}
	want(16, 32768, api.OK)
}

// takes holds what is ranged over, up to so many, against what is wanted, and asks that no more comes
// than is asked for. Each that comes is overwritten as soon as it is looked at: what comes then is none the worse for it.
func takes[T comparable](t *testing.T, what string, seq iter.Seq[[]T], want [][]T, most int, with T) {
	t.Helper()
	n := 0
	seq(func(got []T) bool {
		if n == most || n == len(want) {
			t.Fatalf("%s: one too many: %#v", what, got)
		}
		if !slices.Equal(got, want[n]) {
			t.Fatalf("%s: the one at %d is %#v; want %#v", what, n, got, want[n])
		}
		spoil(got, with)
		n++
		return n < most
	})
	if n != min(most, len(want)) {
		t.Fatalf("%s: %d come; want %d", what, n, min(most, len(want)))
	}
}

// takesParts does so in part, for each part, and whole, twice.
func takesParts[T comparable](t *testing.T, what string, seq iter.Seq[[]T], want [][]T, with T) {
	t.Helper()
	for most := 1; most <= min(len(want), 64); most++ {
		takes(t, what, seq, want, most, with)
	}
	takes(t, what, seq, want, math.MaxInt, with)
	takes(t, what, seq, want, math.MaxInt, with)
}

// P7.1: Ways, written out.
func TestWaysWrittenOut(t *testing.T) {
	for n, want := range [][][]int{
		{{}},
		{{}},
		{{}, {1}},
		{{}, {1}, {2}, {1, 2}},
		{{}, {1}, {2}, {1, 2}, {3}, {1, 3}, {2, 3}, {1, 2, 3}},
	} {
		takesParts(t, "Ways("+strconv.Itoa(n)+")", cuts.Ways(n), want, -1)
	}
}

// P7.1: all ways that there are, in order, as many as Count tells; in part; ranged over again.
func TestEveryWay(t *testing.T) {
	for n := range 17 {
		want := toldWays(n)
		takesParts(t, "Ways("+strconv.Itoa(n)+")", cuts.Ways(n), want, -1)
		if many, e := cuts.Count(n); many != len(want) || e != api.OK {
			t.Errorf("Count(%d) = %d, %d; want %d", n, many, e, len(want))
		}
	}
}

// P7.1: a loop that is left gets no more, and one within another goes its own way.
func TestWaysLeftAndNested(t *testing.T) {
	ways := cuts.Ways(3)
	want := toldWays(3)
	n := 0
	for way := range ways {
		if !slices.Equal(way, want[n]) {
			t.Errorf("%v; want %v", way, want[n])
		}
		takes(t, "within", ways, want, math.MaxInt, -1)
		if n++; n == 3 {
			break
		}
	}
	if n != 3 {
		t.Errorf("%d came; want 3", n)
	}
}

// P7.1: each way and each list of pieces is a list of its own, what is behind its end, too.
func TestListsAreTheirOwn(t *testing.T) {
	ways, each := slices.Collect(cuts.Ways(5)), slices.Collect(cuts.Each("abcde"))
	wantWays, wantEach := toldWays(5), toldEach("abcde")
	for i := range ways {
		spoil(ways[i][len(ways[i]):], -1)
		spoil(each[i][len(each[i]):], "spoilt")
	}
	for i := range ways {
		if !slices.Equal(ways[i], wantWays[i]) || !slices.Equal(each[i], wantEach[i]) {
			t.Fatalf("%d: %v, %q; want %v, %q", i, ways[i], each[i], wantWays[i], wantEach[i])
		}
		spoil(ways[i], -1)
		spoil(each[i], "spoilt")
	}
	takes(t, "Ways(5)", cuts.Ways(5), wantWays, math.MaxInt, -1)
	takes(t, "Each(abcde)", cuts.Each("abcde"), wantEach, math.MaxInt, "spoilt")
}

// P7.1: nothing comes where Count tells an error.
func TestNothingWhereCountTellsAnError(t *testing.T) {
	for _, n := range []int{-1, -2, math.MinInt + 1, math.MinInt, 17, 18, 63, 64, 65, 1 << 32, math.MaxInt} {
		takesParts(t, "Ways("+strconv.Itoa(n)+")", cuts.Ways(n), nil, -1)
	}
	for _, n := range []int{17, 18, 64, 65, 1 << 16} {
		takesParts(t, "Each of "+strconv.Itoa(n)+" bytes", cuts.Each(strings.Repeat("a", n)), nil, "spoilt")
	}
}

// P7.1: Each, written out.
func TestEachWrittenOut(t *testing.T) {
	for s, want := range map[string][][]string{
		"":         {{""}},
		"a":        {{"a"}},
		"ab":       {{"ab"}, {"a", "b"}},
		"abc":      {{"abc"}, {"a", "bc"}, {"ab", "c"}, {"a", "b", "c"}},
		"é\xff":    {{"é\xff"}, {"\xc3", "\xa9\xff"}, {"é", "\xff"}, {"\xc3", "\xa9", "\xff"}},
		"\x00\r\n": {{"\x00\r\n"}, {"\x00", "\r\n"}, {"\x00\r", "\n"}, {"\x00", "\r", "\n"}},
	} {
		takesParts(t, "Each("+strconv.Quote(s)+")", cuts.Each(s), want, "spoilt")
	}
}

// P7.1, P7.2: texts of each length that is cut, in all ways: in order, in part, again; joined each time the text.
func TestEachEveryWay(t *testing.T) {
	const longest = "ab\xffé\x00\r\n\",€cdf"
	if len(longest) != 16 {
		t.Fatal(len(longest))
	}
	for n := range len(longest) + 1 {
		s := longest[:n]
		takesParts(t, "Each("+strconv.Quote(s)+")", cuts.Each(s), toldEach(s), "spoilt")
		for pieces := range cuts.Each(s) {
			if got := cuts.Join(pieces); got != s || joined(pieces) != s {
				t.Fatalf("%q, joined %q; want %q", pieces, got, s)
			}
		}
	}
}

// P7.1: each way is made when it is asked for, as far as is asked.
func TestNoMoreIsMadeThanIsAskedFor(t *testing.T) {
	s := strings.Repeat("a", 16)
	made := func(most int) float64 {
		return testing.AllocsPerRun(3, func() {
			n := 0
			for range cuts.Ways(16) {
				if n++; n == most {
					break
				}
			}
			n = 0
			for range cuts.Each(s) {
				if n++; n == most {
					break
				}
			}
		})
	}
	all := made(math.MaxInt)
	if one := made(1); one > 50 || all < 1000 {
		t.Errorf("%v pieces of memory for the first one of each, %v for all of them", one, all)
	}
	if none := testing.AllocsPerRun(3, func() { cuts.Ways(16); cuts.Each(s) }); none > 10 {
		t.Errorf("%v pieces of memory for none", none)
	}
}

// randomNumbers are of every size, more of them small.
func randomNumbers(r *rand.Rand, most, about int) []int {
	l := make([]int, r.Intn(most))
	for i := range l {
		switch r.Intn(12) {
		case 0:
			l[i] = int(r.Uint64())
		case 1:
			l[i] = -r.Intn(about + 1)
		default:
			l[i] = r.Intn(about + 2)
		}
	}
	return l
}

// P7.1, P7.2: longer texts and lists, as chance has it (always the same).
func TestLongerTexts(t *testing.T) {
	r := rand.New(rand.NewSource(71))
	for range 2000 {
		b := make([]byte, r.Intn(60))
		for i := range b {
			b[i] = byte(r.Intn(256))
		}
		s := string(b)
		checkAt(t, s, randomNumbers(r, 200, len(s)))
		checkBy(t, s, randomNumbers(r, 8, 1+r.Intn(len(s)+1)))
	}
}

// P1: long texts and long lists come to their end.
func TestLongTexts(t *testing.T) {
	const n = 1 << 20
	s := strings.Repeat("ab", n/2)
	falling := make([]int, n+1)
	for i := range falling {
		falling[i] = n - i
	}
	if l := cuts.At(s, falling...); len(l) != n+2 || l[0] != "" || l[1] != "a" || l[n] != "b" || l[n+1] != "" || cuts.Join(l) != s {
		t.Errorf("At: %d pieces", len(l))
	}
	if l := cuts.At("", make([]int, n)...); len(l) != n+1 || cuts.Join(l) != "" {
		t.Errorf("At of nothing: %d pieces", len(l))
	}
	if l := cuts.By(s, 1); len(l) != n || l[0] != "a" || l[n-1] != "b" || cuts.Join(l) != s {
		t.Errorf("By 1: %d pieces", len(l))
	}
	noughts := append(make([]int, n), n/2)
	if l := cuts.By(s, noughts...); len(l) != 2*n+2 || l[n] != s[:n/2] || l[2*n+1] != s[n/2:] || cuts.Join(l) != s {
		t.Errorf("By of many noughts: %d pieces", len(l))
	}
}

func FuzzPieces(f *testing.F) {
	f.Add("abcd", 3, 1, 3)
	f.Add("", 0, -1, math.MaxInt)
	f.Add("é\xff", math.MinInt, 0, 2)
	f.Fuzz(func(t *testing.T, s string, i, j, k int) {
		if len(s) > 1000 {
			return
		}
		checkAt(t, s, []int{i, j, k})
		checkBy(t, s, []int{i, j, k})
		if len(s) <= 8 {
			takesParts(t, "Each("+strconv.Quote(s)+")", cuts.Each(s), toldEach(s), "spoilt")
		}
	})
}
