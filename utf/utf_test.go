package utf_test

import (
	"math"
	"slices"
	"strings"
	"testing"
	"unicode/utf8"

	"quillpen/api"
	"quillpen/utf"
)

// span is the bytes from low to high.
type span struct{ low, high byte }

func (s span) has(b byte) bool { return s.low <= b && b <= s.high }

var any80 = span{0x80, 0xbf}

// forms are the sequences as the chapter names them.
var forms = [][]span{
	{{0x00, 0x7f}},
	{{0xc2, 0xdf}, any80},
	{{0xe0, 0xe0}, {0xa0, 0xbf}, any80},
	{{0xe1, 0xec}, any80, any80},
	{{0xee, 0xee}, any80, any80},
	{{0xef, 0xef}, any80, any80},
	{{0xed, 0xed}, {0x80, 0x9f}, any80},
	{{0xf0, 0xf0}, {0x90, 0xbf}, any80, any80},
	{{0xf1, 0xf3}, any80, any80, any80},
	{{0xf4, 0xf4}, {0x80, 0x8f}, any80, any80},
}

// rests are what must come still, by the states' numbers, as the chapter names them.
var rests = [][]span{
	{},
	{any80},
	{any80, any80},
	{any80, any80, any80},
	{{0xa0, 0xbf}, any80},
	{{0x80, 0x9f}, any80},
	{{0x90, 0xbf}, any80, any80},
	{{0x80, 0x8f}, any80, any80},
}

// wantStep is Step by what must come: behind a byte the rest of it must come still.
func wantStep(state int, b byte) (int, bool) {
	ways := forms
	if state != 0 {
		ways = rests[state : state+1]
	}
	for _, way := range ways {
		if way[0].has(b) {
			next := slices.IndexFunc(rests, func(rest []span) bool { return slices.Equal(rest, way[1:]) })
			return next, true
		}
	}
	return 0, false
}

// begun is how many bytes at s's beginning go on as the way asks.
func begun(way []span, s string) int {
	n := 0
	for n < len(way) && n < len(s) && way[n].has(s[n]) {
		n++
	}
	return n
}

// told is what the chapter says of a text, found sequence by sequence, without
// states: how many bytes go on, and how many of these are whole sequences.
func told(s string) (going, longest int) {
	for {
		most, whole := 0, false
		for _, way := range forms {
			if n := begun(way, s[longest:]); n > most {
				most, whole = n, n == len(way)
			}
		}
		if !whole {
			return longest + most, longest
		}
		longest += most
	}
}

func wantBad(s string) (api.Fault, int) {
	going, longest := told(s)
	switch {
	case going < len(s):
		return api.Fault{Kind: api.ErrUtf8, At: going}, longest
	case longest < len(s):
		return api.Fault{Kind: api.ErrCut, At: len(s)}, longest
	}
	return api.Fault{}, longest
}

// wantText holds Valid, Bad and Longest of a text against the chapter, and Valid against Go's own.
func wantText(t *testing.T, s string) {
	t.Helper()
	bad, longest := wantBad(s)
	if got := utf.Bad(s); got != bad {
		t.Fatalf("Bad(%q) = %v; want %v", s, got, bad)
	}
	if got := utf.Valid(s); got != (bad == api.Fault{}) || got != utf8.ValidString(s) {
		t.Fatalf("Valid(%q) = %v; want %v", s, got, !got)
	}
	if got := utf.Longest(s); got != longest {
		t.Fatalf("Longest(%q) = %d; want %d", s, got, longest)
	}
}

// wantRun holds Run against the bytes one by one.
func wantRun(t *testing.T, state int, s string) {
	t.Helper()
	next, n := state, 0
	for n < len(s) {
		behind, ok := wantStep(next, s[n])
		if !ok {
			break
		}
		next, n = behind, n+1
	}
	if gotNext, gotN := utf.Run(state, s); gotNext != next || gotN != n {
		t.Fatalf("Run(%d, %q) = %d, %d; want %d, %d", state, s, gotNext, gotN, next, n)
	}
}

// wantPieces holds Run of a text in two pieces, at every place, against Run of it at once.
func wantPieces(t *testing.T, state int, s string) {
	t.Helper()
	next, n := utf.Run(state, s)
	for i := 0; i <= len(s); i++ {
		gotNext, gotN := utf.Run(state, s[:i])
		// What doesn't go on in the first piece ends the run: the second isn't looked at.
		if gotN == i {
			more := 0
			gotNext, more = utf.Run(gotNext, s[i:])
			gotN += more
		}
		if gotNext != next || gotN != n {
			t.Fatalf("Run(%d, %q), in two pieces at %d: %d, %d; at once: %d, %d", state, s, i, gotNext, gotN, next, n)
		}
	}
}

// badInPieces is Bad, as one tells it who is handed two pieces, by Run alone.
func badInPieces(a, b string) api.Fault {
	state, n := utf.Run(0, a)
	if n < len(a) {
		return api.Fault{Kind: api.ErrUtf8, At: n}
	}
	state, n = utf.Run(state, b)
	switch {
	case n < len(b):
		return api.Fault{Kind: api.ErrUtf8, At: len(a) + n}
	case state != 0:
		return api.Fault{Kind: api.ErrCut, At: len(a) + n}
	}
	return api.Fault{}
}

// edges are the bounds of all spans, and the bytes beside them.
var edges = []byte{0x00, 0x7f, 0x80, 0x8f, 0x90, 0x9f, 0xa0, 0xbf, 0xc0, 0xc1, 0xc2, 0xdf, 0xe0, 0xe1, 0xec, 0xed, 0xee, 0xef, 0xf0, 0xf1, 0xf3, 0xf4, 0xf5, 0xff}

// eachText hands out every text of at most so many of these bytes.
func eachText(bytes []byte, most int, f func(string)) {
	var add func(s string)
	add = func(s string) {
		f(s)
		if len(s) == most {
			return
		}
		for _, b := range bytes {
			add(s + string([]byte{b}))
		}
	}
	add("")
}

// written are texts that are longer than those of eachText.
var written = []string{
	"",
	"a",
	"quill, pen\r\n\"7\"\x00\x7f",
	"äöüß ñ é",
	"€ 日本語 ﷽ \uffff",
	"😀🏳️‍🌈\U0010ffff\U00010000",
	"\u0080\u07ff\u0800\ud7ff\ue000",
	"\xef\xbb\xbfa,b\n",
	"aé€😀",
	"aé€😀\xc2",
	"aé€😀\xf0\x9f\x98",
	"aé€😀\xff" + "bcd",
	"aé€\xed\xa0\x80😀",
	"aé\xc0\x80€",
	"\xf0\x9f\x98\x80\xf0\x9f\x98a",
	"\xf4\x8f\xbf\xbf\xf4\x90\x80\x80",
	"\xe2\x28\xa1",
	"\x80\xbf",
	strings.Repeat("é€😀", 100),
	strings.Repeat("é€😀", 100) + "\xe1\x80",
	strings.Repeat("a", 1000) + "\xc1",
}

// P2.1: Step of each state with every byte.
func TestStepOfEverything(t *testing.T) {
	for state := range rests {
		for b := 0; b < 256; b++ {
			next, ok := wantStep(state, byte(b))
			if gotNext, gotOK := utf.Step(state, byte(b)); gotNext != next || gotOK != ok {
				t.Errorf("Step(%d, %02x) = %d, %v; want %d, %v", state, b, gotNext, gotOK, next, ok)
			}
		}
	}
}

// P2.1: the edges that the chapter names, written out: the bytes up to each one have the same answer.
func TestEdgesOfStep(t *testing.T) {
	// no stands for 0 and false.
	const no = -1
	for state, steps := range [][]struct {
		upTo byte
		next int
	}{
		{{0x7f, 0}, {0xc1, no}, {0xdf, 1}, {0xe0, 4}, {0xec, 2}, {0xed, 5}, {0xef, 2}, {0xf0, 6}, {0xf3, 3}, {0xf4, 7}, {0xff, no}},
		{{0x7f, no}, {0xbf, 0}, {0xff, no}},
		{{0x7f, no}, {0xbf, 1}, {0xff, no}},
		{{0x7f, no}, {0xbf, 2}, {0xff, no}},
		{{0x9f, no}, {0xbf, 1}, {0xff, no}},
		{{0x7f, no}, {0x9f, 1}, {0xff, no}},
		{{0x8f, no}, {0xbf, 2}, {0xff, no}},
		{{0x7f, no}, {0x8f, 2}, {0xff, no}},
	} {
		b := 0
		for _, step := range steps {
			for ; b <= int(step.upTo); b++ {
				want, wantOK := step.next, step.next != no
				if !wantOK {
					want = 0
				}
				if next, ok := utf.Step(state, byte(b)); next != want || ok != wantOK {
					t.Errorf("Step(%d, %02x) = %d, %v; want %d, %v", state, b, next, ok, want, wantOK)
				}
			}
		}
	}
}

// P2.1: the chapter's examples.
func TestExamples(t *testing.T) {
	state := 0
	for i, want := range []int{2, 1, 0} {
		next, ok := utf.Step(state, "\xe2\x82\xac"[i])
		if next != want || !ok {
			t.Errorf("E2 82 AC, byte %d: %d, %v; want %d", i, next, ok, want)
		}
		state = next
	}
	if f := utf.Bad("\xe2\x28"); f != (api.Fault{Kind: api.ErrUtf8, At: 1}) {
		t.Errorf("E2 28: %v", f)
	}
}

// P2.1: texts with their answers, written out.
func TestWrittenOut(t *testing.T) {
	for _, c := range []struct {
		s       string
		bad     api.Fault
		longest int
	}{
		{"", api.Fault{}, 0},
		{"a", api.Fault{}, 1},
		{"\x00\x7f", api.Fault{}, 2},
		{"aé€😀", api.Fault{}, 10},
		{"\xc2\x80\xdf\xbf", api.Fault{}, 4},
		{"\xe0\xa0\x80\xed\x9f\xbf\xee\x80\x80\xef\xbf\xbf", api.Fault{}, 12},
		{"\xf0\x90\x80\x80\xf4\x8f\xbf\xbf", api.Fault{}, 8},
		{"\xef\xbb\xbf", api.Fault{}, 3},
		// The place is the byte's that doesn't go on, not its sequence's.
		{"\x80", api.Fault{Kind: api.ErrUtf8, At: 0}, 0},
		{"a\xbf", api.Fault{Kind: api.ErrUtf8, At: 1}, 1},
		{"a\xc1\x80", api.Fault{Kind: api.ErrUtf8, At: 1}, 1},
		{"é\xc2a", api.Fault{Kind: api.ErrUtf8, At: 3}, 2},
		{"a\xe0\x9f\xbf", api.Fault{Kind: api.ErrUtf8, At: 2}, 1},
		{"a\xed\xa0\x80", api.Fault{Kind: api.ErrUtf8, At: 2}, 1},
		{"a\xe2\x82\xc0", api.Fault{Kind: api.ErrUtf8, At: 3}, 1},
		{"a\xf0\x8f\xbf\xbf", api.Fault{Kind: api.ErrUtf8, At: 2}, 1},
		{"a\xf4\x90\x80\x80", api.Fault{Kind: api.ErrUtf8, At: 2}, 1},
		{"a\xf0\x9f\x98\x7f", api.Fault{Kind: api.ErrUtf8, At: 4}, 1},
		{"a\xf5\x80\x80\x80", api.Fault{Kind: api.ErrUtf8, At: 1}, 1},
		// A sequence that begins anew within another one is bad where it begins.
		{"\xe2\xe2\x82\xac", api.Fault{Kind: api.ErrUtf8, At: 1}, 0},
		// The first byte that is bad is told, not a later one, and not the end.
		{"a\xffb\xffc\xc2", api.Fault{Kind: api.ErrUtf8, At: 1}, 1},
		{"\xc2", api.Fault{Kind: api.ErrCut, At: 1}, 0},
		{"aé\xe2", api.Fault{Kind: api.ErrCut, At: 4}, 3},
		{"aé\xe2\x82", api.Fault{Kind: api.ErrCut, At: 5}, 3},
		{"\xe0\xa0", api.Fault{Kind: api.ErrCut, At: 2}, 0},
		{"\xed\x80", api.Fault{Kind: api.ErrCut, At: 2}, 0},
		{"a\xf0", api.Fault{Kind: api.ErrCut, At: 2}, 1},
		{"a\xf0\x90", api.Fault{Kind: api.ErrCut, At: 3}, 1},
		{"a\xf0\x90\x80", api.Fault{Kind: api.ErrCut, At: 4}, 1},
		{"a\xf4\x8f\xbf", api.Fault{Kind: api.ErrCut, At: 4}, 1},
	} {
		if f := utf.Bad(c.s); f != c.bad {
			t.Errorf("Bad(%q) = %v; want %v", c.s, f, c.bad)
		}
		if ok := utf.Valid(c.s); ok != (c.bad == api.Fault{}) {
			t.Errorf("Valid(%q) = %v", c.s, ok)
		}
		if n := utf.Longest(c.s); n != c.longest {
			t.Errorf("Longest(%q) = %d; want %d", c.s, n, c.longest)
		}
	}
}

// P2.1: Run, written out: where no byte goes on the state stays as it was.
func TestRunWrittenOut(t *testing.T) {
	for _, c := range []struct {
		state   int
		s       string
		next, n int
	}{
		{0, "", 0, 0},
		{0, "aé", 0, 3},
		{0, "\x80", 0, 0},
		{0, "a\xf0", 6, 2},
		{0, "a\xf0\x8f", 6, 2},
		{0, "\xe2\x82(", 1, 2},
		{1, "", 1, 0},
		{1, "a", 1, 0},
		{2, "\x80\x80\xc2\xc2", 1, 3},
		{3, "\x80\x80\x80a\xed", 5, 5},
		{4, "\x9f", 4, 0},
		{4, "\xa0", 1, 1},
		{5, "\xa0", 5, 0},
		{5, "\x9f\xbf", 0, 2},
		{6, "\x90", 2, 1},
		{7, "\x90", 7, 0},
		{7, "\x8f\x80\x80\xff\x80", 0, 3},
	} {
		if next, n := utf.Run(c.state, c.s); next != c.next || n != c.n {
			t.Errorf("Run(%d, %q) = %d, %d; want %d, %d", c.state, c.s, next, n, c.next, c.n)
		}
	}
}

// P2.1: every text of up to four bytes of the edges.
func TestTextsOfEdges(t *testing.T) {
	eachText(edges, 4, func(s string) { wantText(t, s) })
}

// P2.1: every text of up to seven bytes of a few, so that sequences stand behind each other.
func TestTextsOfMoreBytes(t *testing.T) {
	eachText([]byte{'a', 0x80, 0xa0, 0xc2, 0xe0, 0xed, 0xf4}, 7, func(s string) { wantText(t, s) })
}

// P2.1: each text of up to two bytes, whatever they are.
func TestTextsOfAllBytes(t *testing.T) {
	all := make([]byte, 256)
	for b := range all {
		all[b] = byte(b)
	}
	eachText(all, 2, func(s string) { wantText(t, s) })
}

// P2.1: every character's sequence is well formed, and none is, cut at any place.
func TestEveryCharacter(t *testing.T) {
	count := 0
	for r := rune(0); r <= utf8.MaxRune; r++ {
		if !utf8.ValidRune(r) {
			continue
		}
		count++
		s := string(r)
		if !utf.Valid(s) || utf.Bad(s) != (api.Fault{}) || utf.Longest(s) != len(s) {
			t.Fatalf("%U: %v, %d", r, utf.Bad(s), utf.Longest(s))
		}
		for i := 1; i < len(s); i++ {
			cut := s[:i]
			if utf.Valid(cut) || utf.Bad(cut) != (api.Fault{Kind: api.ErrCut, At: i}) || utf.Longest(cut) != 0 {
				t.Fatalf("%U, cut at %d: %v, %d", r, i, utf.Bad(cut), utf.Longest(cut))
			}
		}
	}
	if count != 0x110000-0x800 {
		t.Errorf("%d characters", count)
	}
}

// P2.1: longer texts, whole, each of their beginnings, and with each byte replaced by an edge.
func TestLongerTexts(t *testing.T) {
	for _, s := range written {
		for i := range len(s) {
			wantText(t, s[:i])
			for _, b := range edges {
				wantText(t, s[:i]+string([]byte{b})+s[i+1:])
			}
		}
		wantText(t, s)
	}
}

// P2.1: Run from each state, of texts of edges and of longer ones.
func TestRunFromEachState(t *testing.T) {
	for state := range rests {
		eachText(edges, 3, func(s string) { wantRun(t, state, s) })
		for _, s := range written {
			wantRun(t, state, s)
			wantRun(t, state, "\x80\x80"+s)
			wantRun(t, state, "\xa0\x80"+s)
		}
	}
}

// P2.2: Run in two pieces, from each state, at every place.
func TestRunInTwoPieces(t *testing.T) {
	for state := range rests {
		eachText(edges, 3, func(s string) { wantPieces(t, state, s) })
		for _, s := range written {
			wantPieces(t, state, s)
			wantPieces(t, state, "\x80\x80"+s)
			wantPieces(t, state, "\xa0\x80"+s)
		}
	}
}

// P2.2: what Bad tells at once is what one tells who is handed two pieces, at every place.
func TestBadInTwoPieces(t *testing.T) {
	pieces := func(s string) {
		want := utf.Bad(s)
		for i := 0; i <= len(s); i++ {
			if f := badInPieces(s[:i], s[i:]); f != want {
				t.Fatalf("%q, in two pieces at %d: %v; at once: %v", s, i, f, want)
			}
		}
	}
	eachText(edges, 4, pieces)
	for _, s := range written {
		pieces(s)
	}
}

// P2.2: byte by byte by Step is as at once by Run, up to the byte that doesn't go on.
func TestByteByByte(t *testing.T) {
	for state := range rests {
		for _, s := range written {
			next, n := utf.Run(state, s)
			at := state
			for i := range n {
				behind, ok := utf.Step(at, s[i])
				if !ok {
					t.Fatalf("Run(%d, %q) = %d, %d; but byte %d doesn't go on", state, s, next, n, i)
				}
				at = behind
			}
			if at != next {
				t.Errorf("Run(%d, %q) = %d, %d; byte by byte %d", state, s, next, n, at)
			}
			if n < len(s) {
				if _, ok := utf.Step(at, s[n]); ok {
					t.Errorf("Run(%d, %q) = %d, %d; but byte %d goes on", state, s, next, n, n)
				}
			}
		}
	}
}

// P1: no call panics, and each ends, of numbers that are no states, too: of these no byte goes on.
func TestNumbersThatAreNoStates(t *testing.T) {
	for _, state := range []int{math.MinInt, -8, -1, 8, 9, 255, 256, 257, 1 << 32, math.MaxInt} {
		for b := 0; b < 256; b++ {
			if next, ok := utf.Step(state, byte(b)); next != 0 || ok {
				t.Errorf("Step(%d, %02x) = %d, %v", state, b, next, ok)
			}
			if _, n := utf.Run(state, string([]byte{byte(b)})); n != 0 {
				t.Errorf("Run(%d, %02x): %d bytes go on", state, b, n)
			}
		}
		if _, n := utf.Run(state, ""); n != 0 {
			t.Errorf("Run(%d, \"\"): %d bytes go on", state, n)
		}
	}
}

// P1: a text of many bytes comes to its end, and is told to the last one.
func TestLongText(t *testing.T) {
	s := strings.Repeat("aé€😀", 1<<17)
	if !utf.Valid(s) || utf.Bad(s) != (api.Fault{}) || utf.Longest(s) != len(s) {
		t.Errorf("%d bytes: %v, %d", len(s), utf.Bad(s), utf.Longest(s))
	}
	if f := utf.Bad(s + "\xf5"); f != (api.Fault{Kind: api.ErrUtf8, At: len(s)}) {
		t.Errorf("behind %d bytes: %v", len(s), f)
	}
	if f := utf.Bad(s + "\xf4"); f != (api.Fault{Kind: api.ErrCut, At: len(s) + 1}) {
		t.Errorf("behind %d bytes: %v", len(s), f)
	}
}
