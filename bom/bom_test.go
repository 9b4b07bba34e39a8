package bom_test

import (
	"bytes"
	"strings"
	"testing"

	"quillpen/bom"
)

// told is what the chapter says of a stripper that was handed s: all that it has
// handed on, one behind the other, how many bytes it keeps back, and whether the
// mark was there.
func told(s string) (on string, held int, stripped bool) {
	switch s {
	case "", "\xef", "\xef\xbb":
		return "", len(s), false
	}
	if len(s) >= 3 && s[0] == 0xef && s[1] == 0xbb && s[2] == 0xbf {
		return s[3:], 0, true
	}
	return s, 0, false
}

// asked is a stripper with what it was handed and what it handed on by now.
type asked struct {
	*bom.Stripper
	t      *testing.T
	pieces []string
	fed    string
	on     string
}

func newAsked(t *testing.T) *asked {
	a := &asked{Stripper: bom.New(), t: t}
	a.wantState(0, false)
	return a
}

func (a *asked) fatal(call, got, want string) {
	a.t.Helper()
	a.t.Fatalf("%q, %s: %q; want %q", a.pieces, call, got, want)
}

func (a *asked) wantState(held int, stripped bool) {
	a.t.Helper()
	if a.Held() != held || a.Stripped() != stripped {
		a.t.Fatalf("%q: Held() = %d, Stripped() = %v; want %d, %v", a.pieces, a.Held(), a.Stripped(), held, stripped)
	}
}

// feed hands in a piece, and holds what is handed on, Held and Stripped against the chapter.
func (a *asked) feed(piece string) {
	a.t.Helper()
	a.pieces = append(a.pieces, piece)
	a.fed += piece
	on, held, stripped := told(a.fed)
	got := handed(a.t, a.Stripper, piece)
	if want := on[len(a.on):]; got != want {
		a.fatal("Feed of the last", got, want)
	}
	a.on = on
	a.wantState(held, stripped)
}

// close holds Close, and all calls behind it, against the chapter.
func (a *asked) close() {
	a.t.Helper()
	_, held, stripped := told(a.fed)
	kept := a.Close()
	if got, want := string(kept), a.fed[len(a.fed)-held:]; got != want {
		a.fatal("Close", got, want)
	}
	spoil(kept)
	a.wantState(0, stripped)
	for _, piece := range []string{"", "a", "\xef", "\xbb", "\xbf", "\xef\xbb\xbf", "\xef\xbb\xbfa"} {
		if got := handed(a.t, a.Stripper, piece); got != "" {
			a.fatal("Feed behind Close", got, "")
		}
		a.wantState(0, stripped)
		if got := string(a.Close()); got != "" {
			a.fatal("Close behind Close", got, "")
		}
		a.wantState(0, stripped)
	}
}

// handed is what is handed on of a piece. The piece has bytes behind it in its memory,
// and is looked at behind Feed; then both that memory and the answer's are overwritten,
// so that whoever still reads there is told by what comes later.
func handed(t *testing.T, s *bom.Stripper, piece string) string {
	t.Helper()
	memory := piece + "behind it"
	b := []byte(memory)
	out := s.Feed(b[:len(piece)])
	got := string(out)
	if string(b) != memory {
		t.Fatalf("Feed(%q) has made %q of its argument", piece, b)
	}
	spoil(out)
	if string(b) != memory {
		t.Fatalf("Feed(%q): what it hands on is its argument's memory", piece)
	}
	spoil(b)
	return got
}

// spoil overwrites all the memory that a list reaches.
func spoil(b []byte) {
	b = b[:cap(b)]
	for i := range b {
		b[i] = '#'
	}
}

// wantStrip holds Strip against the chapter.
func wantStrip(t *testing.T, s string) {
	t.Helper()
	want, had := s, false
	if on, held, stripped := told(s); held == 0 {
		want, had = on, stripped
	}
	if got, gotHad := bom.Strip(s); got != want || gotHad != had {
		t.Fatalf("Strip(%q) = %q, %v; want %q, %v", s, got, gotHad, want, had)
	}
}

// wantPieces holds all of a stripper that is handed these pieces against the chapter.
func wantPieces(t *testing.T, pieces []string) {
	t.Helper()
	a := newAsked(t)
	for _, piece := range pieces {
		a.feed(piece)
	}
	a.close()
}

// eachCut hands out every way to cut a text into pieces that aren't empty.
func eachCut(s string, f func(pieces []string)) {
	var add func(pieces []string, rest string)
	add = func(pieces []string, rest string) {
		if rest == "" {
			f(pieces)
			return
		}
		for i := 1; i <= len(rest); i++ {
			add(append(pieces[:len(pieces):len(pieces)], rest[:i]), rest[i:])
		}
	}
	add(nil, s)
}

// withEmpty is the pieces with an empty one ahead of each, and two behind the last.
func withEmpty(pieces []string) []string {
	var all []string
	for _, piece := range pieces {
		all = append(all, "", piece)
	}
	return append(all, "", "")
}

// bySize is a text in pieces of so many bytes, the last of which may be shorter.
func bySize(s string, size int) []string {
	var pieces []string
	for len(s) > size {
		pieces = append(pieces, s[:size])
		s = s[size:]
	}
	return append(pieces, s)
}

// eachText hands out every text of at most so many of these bytes.
func eachText(bytes string, most int, f func(string)) {
	var add func(s string)
	add = func(s string) {
		f(s)
		if len(s) == most {
			return
		}
		for i := range len(bytes) {
			add(s + bytes[i:i+1])
		}
	}
	add("")
}

// beside hands out the mark, alone and with a byte behind it, with each byte replaced
// by every one, and with every one put in at each place.
func beside(f func(string)) {
	for _, s := range []string{"\xef\xbb\xbf", "\xef\xbb\xbfa"} {
		for i := 0; i <= len(s); i++ {
			for b := range 256 {
				put := string([]byte{byte(b)})
				f(s[:i] + put + s[i:])
				if i < len(s) {
					f(s[:i] + put + s[i+1:])
				}
			}
		}
	}
}

// written are texts with what stands behind their first bytes, if these are the mark.
var written = []struct {
	s, want string
	had     bool
}{
	{"", "", false},
	{"a", "a", false},
	{"id,name\r\n7,\"quill, pen\"\r\n", "id,name\r\n7,\"quill, pen\"\r\n", false},
	{"\xef", "\xef", false},
	{"\xef\xbb", "\xef\xbb", false},
	{"\xef\xbb\xbf", "", true},
	{"\xef\xbb\xbfa", "a", true},
	{"\xef\xbb\xbfid,name\n", "id,name\n", true},
	{"\xef\xbb\xbf\xef", "\xef", true},
	{"\xef\xbb\xbf\xef\xbb", "\xef\xbb", true},
	// The mark is one at the beginning alone, and but once.
	{"\xef\xbb\xbf\xef\xbb\xbf", "\xef\xbb\xbf", true},
	{"\xef\xbb\xbf\xef\xbb\xbf\xef\xbb\xbf", "\xef\xbb\xbf\xef\xbb\xbf", true},
	{"a\xef\xbb\xbf", "a\xef\xbb\xbf", false},
	{"\n\xef\xbb\xbfa", "\n\xef\xbb\xbfa", false},
	{"\xef\xef\xbb\xbf", "\xef\xef\xbb\xbf", false},
	{"\xef\xbb\xef\xbb\xbf", "\xef\xbb\xef\xbb\xbf", false},
	{"\xefa", "\xefa", false},
	{"\xef\xbba", "\xef\xbba", false},
	{"\xef\xbb\xbe", "\xef\xbb\xbe", false},
	{"\xef\xbf\xbb", "\xef\xbf\xbb", false},
	{"\xbb\xbf", "\xbb\xbf", false},
	{"\xbf", "\xbf", false},
	// Other marks are none.
	{"\xfe\xff\x00a", "\xfe\xff\x00a", false},
	{"\xff\xfea\x00", "\xff\xfea\x00", false},
	{"\x00\x00\xfe\xff", "\x00\x00\xfe\xff", false},
}

// P3.1: texts with their answers, written out: Strip, in one piece, and cut at every place.
func TestWrittenOut(t *testing.T) {
	for _, c := range written {
		if got, had := bom.Strip(c.s); got != c.want || had != c.had {
			t.Errorf("Strip(%q) = %q, %v; want %q, %v", c.s, got, had, c.want, c.had)
		}
		for i := 0; i <= len(c.s); i++ {
			x := bom.New()
			out := string(x.Feed([]byte(c.s[:i]))) + string(x.Feed([]byte(c.s[i:])))
			if out += string(x.Close()); out != c.want || x.Stripped() != c.had || x.Held() != 0 {
				t.Errorf("%q, cut at %d: %q, %v, %d; want %q, %v", c.s, i, out, x.Stripped(), x.Held(), c.want, c.had)
			}
		}
	}
}

// step is a piece, and what is to be seen behind it.
type step struct {
	piece, on string
	held      int
	stripped  bool
}

// P3.1: what each piece hands on, written out, and what Close does; the first is the chapter's example.
func TestStepsWrittenOut(t *testing.T) {
	for n, c := range []struct {
		steps []step
		close string
	}{
		{[]step{{"\xef", "", 1, false}, {"\xbb", "", 2, false}, {"\x41", "\xef\xbb\x41", 0, false}}, ""},
		{nil, ""},
		{[]step{{"", "", 0, false}}, ""},
		{[]step{{"a", "a", 0, false}, {"b", "b", 0, false}}, ""},
		{[]step{{"\xef", "", 1, false}}, "\xef"},
		{[]step{{"\xef", "", 1, false}, {"", "", 1, false}, {"\xbb", "", 2, false}}, "\xef\xbb"},
		{[]step{{"\xef\xbb", "", 2, false}}, "\xef\xbb"},
		{[]step{{"\xef\xbb\xbf", "", 0, true}}, ""},
		{[]step{{"\xef", "", 1, false}, {"\xbb", "", 2, false}, {"\xbf", "", 0, true}, {"a", "a", 0, true}}, ""},
		{[]step{{"\xef\xbb", "", 2, false}, {"\xbfab", "ab", 0, true}}, ""},
		{[]step{{"\xef\xbb\xbfab", "ab", 0, true}, {"cd", "cd", 0, true}}, ""},
		// Behind the mark, and behind another beginning, nothing is kept back.
		{[]step{{"\xef\xbb\xbf", "", 0, true}, {"\xef", "\xef", 0, true}, {"\xbb\xbf", "\xbb\xbf", 0, true}}, ""},
		{[]step{{"\xef\xbb\xbf\xef", "\xef", 0, true}}, ""},
		{[]step{{"a\xef", "a\xef", 0, false}, {"\xbb", "\xbb", 0, false}}, ""},
		{[]step{{"a", "a", 0, false}, {"\xef", "\xef", 0, false}, {"\xbb\xbf", "\xbb\xbf", 0, false}}, ""},
		{[]step{{"\xef", "", 1, false}, {"\xef", "\xef\xef", 0, false}, {"\xbb\xbf", "\xbb\xbf", 0, false}}, ""},
		{[]step{{"\xef\xbb", "", 2, false}, {"\xef\xbb\xbf", "\xef\xbb\xef\xbb\xbf", 0, false}}, ""},
		{[]step{{"\xef", "", 1, false}, {"a\xbb\xbf", "\xefa\xbb\xbf", 0, false}}, ""},
		{[]step{{"\xbb", "\xbb", 0, false}, {"\xbf", "\xbf", 0, false}}, ""},
	} {
		x := bom.New()
		for i, s := range c.steps {
			if on := string(x.Feed([]byte(s.piece))); on != s.on || x.Held() != s.held || x.Stripped() != s.stripped {
				t.Errorf("case %d, %q, piece %d: %q, %d, %v", n, s.piece, i, on, x.Held(), x.Stripped())
			}
		}
		stripped := x.Stripped()
		if kept := string(x.Close()); kept != c.close || x.Held() != 0 || x.Stripped() != stripped {
			t.Errorf("case %d, Close: %q, %d, %v", n, kept, x.Held(), x.Stripped())
		}
	}
}

// P3.1: nothing stands behind Close: a mark that comes there is none, and what was kept back is no beginning any more.
func TestBehindClose(t *testing.T) {
	for _, s := range []string{"", "a", "\xef", "\xef\xbb", "\xef\xbb\xbf", "\xef\xbb\xbfa"} {
		x := bom.New()
		x.Feed([]byte(s))
		stripped := x.Stripped()
		x.Close()
		for _, piece := range []string{"\xbb\xbf", "\xbf", "a", "\xef\xbb\xbfa", ""} {
			if on := x.Feed([]byte(piece)); len(on) != 0 || x.Held() != 0 || x.Stripped() != stripped {
				t.Errorf("%q, Close, Feed(%q): %q, %d, %v", s, piece, on, x.Held(), x.Stripped())
			}
		}
		if kept := x.Close(); len(kept) != 0 {
			t.Errorf("%q, Close, Close: %q", s, kept)
		}
	}
}

// wantAllPieces holds a text in one piece, and cut in every way, without empty pieces and with them, against the chapter.
func wantAllPieces(t *testing.T, s string) {
	t.Helper()
	wantStrip(t, s)
	eachCut(s, func(pieces []string) {
		wantPieces(t, pieces)
		wantPieces(t, withEmpty(pieces))
	})
}

// P3.1: every text of up to five bytes of the mark's and another one, in all pieces.
func TestTextsInAllPieces(t *testing.T) {
	eachText("\xef\xbb\xbfa", 5, func(s string) { wantAllPieces(t, s) })
}

// P3.1: the short ones of the texts that are written out, in all pieces.
func TestWrittenInAllPieces(t *testing.T) {
	for _, c := range written {
		if len(c.s) < 10 {
			wantAllPieces(t, c.s)
		}
	}
}

// P3.1: every byte beside the mark's, at each place, cut in every way.
func TestTextsBesideTheMark(t *testing.T) {
	beside(func(s string) {
		wantStrip(t, s)
		eachCut(s, func(pieces []string) { wantPieces(t, pieces) })
		wantPieces(t, withEmpty(bySize(s, 1)))
	})
}

// P3.1: longer texts, by pieces of each size, and in two at every place.
func TestLongerTexts(t *testing.T) {
	for _, s := range []string{
		"\xef\xbb\xbfid,name\r\n7,\"quill, pen\"\r\n8,\xef\xbb\xbf\r\n",
		"id,name\r\n7,\"quill, pen\"\r\n8,\xef\xbb\xbf\r\n",
		strings.Repeat("\xef\xbb\xbf", 20),
		strings.Repeat("\xef\xbb", 20),
		strings.Repeat("\xef", 40) + "\xbb\xbf",
	} {
		wantStrip(t, s)
		for size := 1; size <= len(s); size++ {
			wantPieces(t, bySize(s, size))
			wantPieces(t, withEmpty(bySize(s, size)))
		}
		for i := 0; i <= len(s); i++ {
			wantPieces(t, []string{s[:i], s[i:]})
		}
	}
}

// P3.1: nil is a piece like an empty one.
func TestNil(t *testing.T) {
	x, out := bom.New(), ""
	for _, piece := range []string{"\xef", "\xbb", "\xbf", "a"} {
		held, stripped := x.Held(), x.Stripped()
		if on := x.Feed(nil); len(on) != 0 || x.Held() != held || x.Stripped() != stripped {
			t.Errorf("ahead of %q: Feed(nil) = %q, %d, %v", piece, on, x.Held(), x.Stripped())
		}
		out += string(x.Feed([]byte(piece)))
	}
	x.Close()
	if on := x.Feed(nil); len(on) != 0 || out != "a" {
		t.Errorf("Feed(nil) behind Close: %q; all: %q", on, out)
	}
}

// P3.1: what was handed on stays as it was, whatever comes later, and whoever writes
// behind another answer's end.
func TestAnswersAreTheirOwn(t *testing.T) {
	eachText("\xef\xbb\xbfa", 4, func(s string) {
		eachCut(s, func(pieces []string) {
			x := bom.New()
			memory := make([]byte, 0, len(s))
			var answers [][]byte
			var texts []string
			keep := func(answer []byte) {
				answers, texts = append(answers, answer), append(texts, string(answer))
			}
			for _, piece := range pieces {
				// The same memory for each piece, as one has it who reads into a buffer.
				keep(x.Feed(append(memory, piece...)))
			}
			keep(x.Close())
			for _, answer := range answers {
				spoil(answer[len(answer):])
			}
			for i, answer := range answers {
				if string(answer) != texts[i] {
					t.Fatalf("%q: answer %d was %q and is %q", pieces, i, texts[i], answer)
				}
				spoil(answer)
				texts[i] = string(answer)
			}
		})
	})
}

// P3.1: writing into what was handed on changes nothing of strippers that come later.
func TestMarkIsNobodysMemory(t *testing.T) {
	x := bom.New()
	x.Feed([]byte("\xef\xbb"))
	spoil(x.Close())
	x = bom.New()
	x.Feed([]byte("\xef\xbb"))
	spoil(x.Feed([]byte("a")))
	wantPieces(t, []string{"\xef\xbb", "\xbfa"})
	wantPieces(t, []string{"\xef", "\xbb", "a"})
	wantPieces(t, []string{"\xef\xbb"})
	wantStrip(t, "\xef\xbb\xbfa")
}

// P3.1: strippers that are fed by turns don't know of each other.
func TestStrippersByTurns(t *testing.T) {
	a, b, c := newAsked(t), newAsked(t), newAsked(t)
	for _, turn := range [][3]string{{"\xef", "a", ""}, {"\xbb", "\xef", "\xef"}, {"\xbf", "\xbb", ""}, {"\xef", "\xbf", "\xbb"}} {
		a.feed(turn[0])
		b.feed(turn[1])
		c.feed(turn[2])
	}
	a.close()
	c.close()
	b.close()
}

// P1: a text of many bytes comes to its end, at once, and in many pieces.
func TestLongText(t *testing.T) {
	rest := strings.Repeat("\xef\xbb\xbfa\xef\xbb", 1<<14)
	for s, had := range map[string]bool{"\xef\xbb\xbf" + rest: true, "\xef\xbba" + rest: false} {
		want := strings.TrimPrefix(s, "\xef\xbb\xbf")
		if got, gotHad := bom.Strip(s); got != want || gotHad != had {
			t.Errorf("Strip: %d bytes of %d, %v", len(got), len(s), gotHad)
		}
		for _, size := range []int{1, 2, 4096, len(s)} {
			x := bom.New()
			var out bytes.Buffer
			for _, piece := range bySize(s, size) {
				out.Write(x.Feed([]byte(piece)))
			}
			out.Write(x.Close())
			if out.String() != want || x.Stripped() != had {
				t.Errorf("by %d: %d bytes of %d, %v", size, out.Len(), len(s), x.Stripped())
			}
		}
	}
}

func FuzzPieces(f *testing.F) {
	f.Add("\xef\xbb\xbfa", 1, 2)
	f.Add("\xef\xbba", 0, 2)
	f.Add("", 0, 0)
	f.Fuzz(func(t *testing.T, s string, i, j int) {
		i = min(max(i, 0), len(s))
		j = min(max(j, i), len(s))
		wantStrip(t, s)
		wantPieces(t, []string{s[:i], s[i:j], s[j:]})
	})
}
