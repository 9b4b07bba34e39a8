package pieces_test

import (
	"bytes"
	"iter"
	"math"
	"math/rand"
	"runtime"
	"slices"
	"strconv"
	"strings"
	"testing"
	"unicode/utf8"

	"quillpen/api"
	"quillpen/pieces"
	"quillpen/whole"
	"quillpen/write"
)

const mark = "\xef\xbb\xbf"

var ends = []int{api.LF, api.CRLF, api.Either}

// dialects are right ones, but for their End: usual ones, bytes that no text has, letters, and ones beside the ends of line.
var dialects = []api.Dialect{
	{Delim: ',', Quote: '"'},
	{Delim: ';', Quote: '\''},
	{Delim: '\t', Quote: 0},
	{Delim: 0, Quote: 0x7f},
	{Delim: 'a', Quote: 'b'},
	{Delim: '"', Quote: ','},
	{Delim: 0x0b, Quote: 0x0c},
	{Delim: 0x09, Quote: 0x0e},
}

// wrongDialects are some that aren't right, by each of their parts.
var wrongDialects = []api.Dialect{
	{},
	{Delim: ',', Quote: '"'},
	{Delim: ',', Quote: '"', End: 4},
	{Delim: ',', Quote: '"', End: -1},
	{Delim: ',', Quote: '"', End: math.MinInt},
	{Delim: ',', Quote: '"', End: math.MaxInt},
	{Delim: ',', Quote: ',', End: api.LF},
	{Delim: 0, Quote: 0, End: api.Either},
	{Delim: '\r', Quote: '"', End: api.LF},
	{Delim: '\n', Quote: '"', End: api.CRLF},
	{Delim: ',', Quote: '\r', End: api.LF},
	{Delim: ',', Quote: '\n', End: api.CRLF},
	{Delim: 0x80, Quote: '"', End: api.LF},
	{Delim: ',', Quote: 0x80, End: api.LF},
	{Delim: 0xef, Quote: 0xbb, End: api.Either},
	{Delim: 0xff, Quote: 0xff, End: api.LF},
}

// illFormed are texts that aren't UTF-8, by each way in which one may not be.
var illFormed = []string{
	"\x80", "\xbf", "\xc0\x80", "\xc1\xbf", "\xf5\x80\x80\x80", "\xfe", "\xff", // bytes that begin no sequence
	"\xc2", "\xe2", "\xe2\x82", "\xf0\x9f\x98", mark[:1], mark[:2], // cut sequences
	"\xe2\x28", "\xe2\x28\xa1", "\xc2x", "\xc2\xc2\x80", "\xef\xbbx", // sequences that don't go on
	"\xe0\x80\x80", "\xe0\x9f\xbf", "\xf0\x8f\xbf\xbf", // longer than need be
	"\xed\xa0\x80", "\xed\xbf\xbf", "\xf4\x90\x80\x80", // surrogates, and above 10FFFF
	mark[1:], "a\x80", "é\x80", "\x80a", "\xff,", "\xff\"", "\"\xff\"", "\r\xff\n", "\x00\xff", mark + "\xff",
}

// widest are limits that bar nothing.
var widest = api.Limits{Field: api.MaxLimit, Fields: api.MaxLimit, Records: api.MaxLimit}

// farBelow are the sizes below 1 that are asked about, farAbove ones beyond all that there is.
var (
	farBelow = []int{0, -1, -2, -7, math.MinInt32, math.MinInt + 1, math.MinInt}
	farAbove = []int{1 << 20, math.MaxInt32, math.MaxInt - 1, math.MaxInt}
)

// eachDialect hands out each right one of them with each end.
func eachDialect(f func(api.Dialect)) {
	for _, d := range dialects {
		for _, end := range ends {
			d.End = end
			f(d)
		}
	}
}

// isRight is layer 1's word.
func isRight(d api.Dialect) bool {
	for _, b := range []byte{d.Delim, d.Quote} {
		if b >= 0x80 || b == 0x0d || b == 0x0a {
			return false
		}
	}
	return d.Delim != d.Quote && slices.Contains(ends, d.End)
}

func comma(end int) api.Dialect { return api.Dialect{Delim: ',', Quote: '"', End: end} }

// one is the text of one byte.
func one(b byte) string { return string([]byte{b}) }

// own is a dialect's own bytes: those that a field may not have bare.
func own(d api.Dialect) []string { return []string{one(d.Delim), one(d.Quote), "\r", "\n"} }

// endOf is layer 1's word of the end of line of a right dialect.
func endOf(d api.Dialect) string {
	return map[int]string{api.LF: "\n", api.CRLF: "\r\n", api.Either: "\n"}[d.End]
}

// toldLine is layer 10's words of a record's line, told byte by byte.
func toldLine(d api.Dialect, r []string, first bool) string {
	var told []byte
	for i, f := range r {
		if i > 0 {
			told = append(told, d.Delim)
		}
		if !mustBeQuoted(d, f, len(r) == 1, i == 0 && first) {
			told = append(told, f...)
			continue
		}
		told = append(told, d.Quote)
		for k := range len(f) {
			told = append(told, f[k])
			if f[k] == d.Quote {
				told = append(told, f[k])
			}
		}
		told = append(told, d.Quote)
	}
	return string(told) + endOf(d)
}

// mustBeQuoted is layer 8's words of a field.
func mustBeQuoted(d api.Dialect, f string, alone, first bool) bool {
	for i := range len(f) {
		if f[i] == d.Delim || f[i] == d.Quote || f[i] == 0x0d || f[i] == 0x0a {
			return true
		}
	}
	return len(f) == 0 && alone || len(f) >= 3 && f[:3] == mark && first
}

// toldError is layer 10's words of what bars a record from being written.
func toldError(r []string) api.Errno {
	if len(r) == 0 {
		return api.ErrEmpty
	}
	if slices.ContainsFunc(r, func(f string) bool { return !utf8.ValidString(f) }) {
		return api.ErrText
	}
	return api.OK
}

// spare is what stands in the room behind the records that are handed in.
const spare = "spare"

// desk is a writer, and beside it what the chapter says of it: each call is told to both, and all that can be asked of the writer is asked behind each.
type desk struct {
	t       *testing.T
	d       api.Dialect
	w       *pieces.Writer
	records [][]string // which were put
	text    []byte     // the lines of these
	taken   int        // how many of its bytes were taken
	closed  bool
}

func newDesk(t *testing.T, d api.Dialect) *desk {
	w, e := pieces.New(d)
	if w == nil || e != api.OK {
		t.Helper()
		t.Fatalf("New(%v) = %v, %d", d, w, e)
	}
	k := &desk{t: t, d: d, w: w}
	k.check()
	return k
}

// there is what was put and not taken.
func (k *desk) there() []byte { return k.text[k.taken:] }

// check asks all that can be asked without changing anything.
func (k *desk) check() {
	ready, count, total, closed := k.w.Ready(), k.w.Count(), k.w.Total(), k.w.Closed()
	if ready != len(k.there()) || count != len(k.records) || total != len(k.text) || closed != k.closed {
		k.t.Helper()
		k.t.Fatalf("%v: behind %d of %q: Ready %d, Count %d, Total %d, Closed %v; want %d, %d, %d, %v",
			k.d, k.taken, short(k.text), ready, count, total, closed, len(k.there()), len(k.records), len(k.text), k.closed)
	}
}

// short is the beginning of a long text.
func short(b []byte) []byte { return b[:min(len(b), 1000)] }

// put puts a record, which may be refused, and asks that it isn't written into; behind it the record is written into, as no writer keeps it.
func (k *desk) put(r ...string) {
	want := toldError(r)
	if k.closed {
		want = api.ErrClosed
	}
	given := append(slices.Clone(r), spare)
	if e := k.w.Put(given[:len(r)]); e != want {
		k.t.Helper()
		k.t.Fatalf("%v: behind %q: Put(%q) = %d; want %d", k.d, short(k.text), r, e, want)
	}
	if !slices.Equal(given[:len(r)], r) || given[len(r)] != spare {
		k.t.Helper()
		k.t.Fatalf("%v: Put(%q) wrote into it: %q", k.d, r, given)
	}
	for i := range given {
		given[i] = "changed"
	}
	if want == api.OK {
		k.text = append(k.text, toldLine(k.d, r, len(k.records) == 0)...)
		k.records = append(k.records, slices.Clone(r))
	}
	k.check()
}

// want holds a piece of so many bytes at most against what there is, of which it is gone then; behind it the piece is written into, as it is the caller's own.
func (k *desk) want(piece []byte, n int) {
	want := k.there()[:min(max(n, 0), len(k.there()))]
	if !bytes.Equal(piece, want) {
		k.t.Helper()
		k.t.Fatalf("%v: behind %d of %q: a piece of %d is %q; want %q", k.d, k.taken, short(k.text), n, piece, want)
	}
	k.taken += len(want)
	all := piece[:cap(piece)]
	for i := range all {
		all[i] = '!'
	}
	k.check()
}

func (k *desk) take(n int) { k.t.Helper(); k.want(k.w.Take(n), n) }

// drain drains pieces of a size, at most so many, and answers how many it got: as many as there should be.
func (k *desk) drain(size, most int) int {
	n := 0
	want := 0
	if len(k.there()) > 0 {
		want = min(most, (len(k.there())-1)/max(size, 1)+1)
	}
	if most > 0 {
		for piece := range k.w.Drain(size) {
			n++
			k.want(piece, max(size, 1))
			if n == most {
				break
			}
		}
	}
	if n != want {
		k.t.Helper()
		k.t.Fatalf("%v: Drain(%d) has handed out %d pieces; want %d", k.d, size, n, want)
	}
	k.check()
	return n
}

func (k *desk) close() {
	k.w.Close()
	k.closed = true
	k.check()
}

// rest takes all that there is still, and holds all that was put against layer 10's text of the records.
func (k *desk) rest() {
	k.t.Helper()
	k.take(len(k.there()))
	k.take(1)
	if text, n, e := write.Table(k.d, k.records); text != string(k.text) || n != len(k.records) || e != api.OK {
		k.t.Fatalf("%v: Table(%q) = %q, %d, %d; want %q", k.d, k.records, text, n, e, short(k.text))
	}
}

// eachList hands out every list of at most so many of these things, the empty one, too.
func eachList[T any](things []T, most int, f func([]T)) {
	var add func(l []T)
	add = func(l []T) {
		f(slices.Clone(l))
		if len(l) == most {
			return
		}
		for _, thing := range things {
			add(append(l[:len(l):len(l)], thing))
		}
	}
	add(nil)
}

// eachRight hands out every right dialect there is, those of each end at the same time as those of the others.
func eachRight(t *testing.T, f func(*testing.T, api.Dialect)) {
	for _, end := range ends {
		t.Run(strconv.Itoa(end), func(t *testing.T) {
			t.Parallel()
			for delim := range 0x80 {
				for quote := range 0x80 {
					if d := (api.Dialect{Delim: byte(delim), Quote: byte(quote), End: end}); isRight(d) {
						f(t, d)
					}
				}
			}
		})
	}
}

// randomRecord is a record of a few fields, of bytes that matter to a dialect and of others; now and then it may not be written.
func randomRecord(random *rand.Rand, d api.Dialect) []string {
	parts := append(own(d), "x", "yz", "é", "😀", mark, endOf(d), "\x00", ",", "\"")
	if random.Intn(8) == 0 {
		parts = append(parts, illFormed[random.Intn(len(illFormed))])
	}
	r := make([]string, random.Intn(5))
	for i := range r {
		for range random.Intn(5) {
			r[i] += parts[random.Intn(len(parts))]
		}
	}
	return r
}

// P11.1: the chapter's example.
func TestChaptersExample(t *testing.T) {
	w, e := pieces.New(comma(api.LF))
	if e != api.OK {
		t.Fatal(e)
	}
	if e := w.Put([]string{"a", "b"}); e != api.OK {
		t.Error(e)
	}
	if b := w.Take(2); string(b) != "a," {
		t.Errorf("%q", b)
	}
	if b := w.Take(9); string(b) != "b\n" {
		t.Errorf("%q", b)
	}
}

// P11.1: New: no writer in a dialect that isn't right, one without anything in each that is.
func TestNew(t *testing.T) {
	for _, d := range wrongDialects {
		if w, e := pieces.New(d); w != nil || e != api.ErrDialect {
			t.Errorf("New(%v) = %v, %d", d, w, e)
		}
	}
	for _, end := range []int{-1, 0, api.LF, api.CRLF, api.Either, 4} {
		for delim := range 0x100 {
			for quote := range 0x100 {
				d := api.Dialect{Delim: byte(delim), Quote: byte(quote), End: end}
				if isRight(d) {
					newDesk(t, d)
				} else if w, e := pieces.New(d); w != nil || e != api.ErrDialect {
					t.Fatalf("New(%v) = %v, %d", d, w, e)
				}
			}
		}
	}
}

// P11.1: a writer into which nothing was put.
func TestNothingPut(t *testing.T) {
	eachDialect(func(d api.Dialect) {
		k := newDesk(t, d)
		for _, n := range slices.Concat(farBelow, []int{1, 2, 3}, farAbove) {
			k.take(n)
			if got := k.drain(n, math.MaxInt); got != 0 {
				t.Fatalf("%v: Drain(%d) of nothing has handed out %d pieces", d, n, got)
			}
		}
		k.close()
		k.take(1)
		k.drain(1, 1)
		k.rest()
	})
}

// P11.1: records written out: what is put is their lines, one behind the other.
func TestPutWrittenOut(t *testing.T) {
	for _, end := range ends {
		d := comma(end)
		w, _ := pieces.New(d)
		want, put := "", 0
		for _, c := range []struct {
			r    []string
			line string
		}{
			{[]string{mark, mark}, "\"" + mark + "\"," + mark}, {[]string{mark, mark}, mark + "," + mark}, {[]string{mark}, mark}, {[]string{"a", "b"}, "a,b"}, {[]string{""}, `""`},
			{[]string{"", ""}, ","}, {[]string{"a,b", `c"d`, ""}, `"a,b","c""d",`}, {[]string{"\r\n"}, "\"\r\n\""}, {[]string{"é", "it's", "a;b"}, "é,it's,a;b"},
		} {
			if e := w.Put(c.r); e != api.OK {
				t.Fatalf("Put(%q) = %d", c.r, e)
			}
			put++
			want += c.line + endOf(d)
			if w.Count() != put || w.Total() != len(want) || w.Ready() != len(want) {
				t.Errorf("%v: behind %q: Count %d, Total %d, Ready %d; want %d, %d, %d", d, c.r, w.Count(), w.Total(), w.Ready(), put, len(want), len(want))
			}
		}
		if b := w.Take(len(want)); string(b) != want || w.Ready() != 0 || w.Count() != put || w.Total() != len(want) {
			t.Errorf("%v: %q, and %d, %d, %d; want %q", d, b, w.Ready(), w.Count(), w.Total(), want)
		}
	}
}

// P11.1: a first field that begins with the mark is quoted in the first record that is put, and in no other one, whatever was taken meanwhile.
func TestPutMark(t *testing.T) {
	eachDialect(func(d api.Dialect) {
		q, delim, end := one(d.Quote), one(d.Delim), endOf(d)
		for _, f := range []string{mark, mark + "x", mark + mark} {
			for _, n := range []int{0, 1, 4, 1 << 20} {
				w, _ := pieces.New(d)
				got := ""
				for _, r := range [][]string{{f}, {f}, {f, f}, {"x", f}} {
					w.Put(r)
					got += string(w.Take(n))
				}
				got += string(w.Take(1 << 20))
				if want := q + f + q + end + f + end + f + delim + f + end + "x" + delim + f + end; got != want {
					t.Fatalf("%v: %q; want %q", d, got, want)
				}
			}
			k := newDesk(t, d)
			k.put("x")
			k.put(f)
			k.put(f, f)
			k.rest()
		}
	})
}

// P11.1: a record that may not be written puts nothing and counts nothing: the next one that may is as it would be without it, the first one where none was put.
func TestPutRefused(t *testing.T) {
	eachDialect(func(d api.Dialect) {
		for _, bad := range illFormed {
			k := newDesk(t, d)
			for _, r := range [][]string{{bad}, nil, {mark, bad}, {}, {bad, "x"}, {"x", "", bad, "y"}, {bad, bad}} {
				k.put(r...)
			}
			k.take(1)
			k.put(mark, "x")
			k.put(bad)
			k.put()
			k.take(2)
			k.put(mark)
			k.put("x", bad)
			k.put(mark, mark)
			if want := one(d.Quote) + mark + one(d.Quote); !strings.HasPrefix(string(k.text), want) || len(k.records) != 3 {
				t.Fatalf("%v: %q", d, k.text)
			}
			k.rest()
		}
	})
}

// P11.1: the errors of Put, by their order: a closed writer's first, whatever the record.
func TestPutErrors(t *testing.T) {
	w, _ := pieces.New(comma(api.LF))
	for range 2 {
		if e := w.Put(nil); e != api.ErrEmpty {
			t.Error(e)
		}
		if e := w.Put([]string{}); e != api.ErrEmpty {
			t.Error(e)
		}
		if e := w.Put([]string{"a", "\xff"}); e != api.ErrText {
			t.Error(e)
		}
	}
	w.Close()
	for _, r := range [][]string{nil, {}, {"a"}, {""}, {"\xff"}, {mark}, {"a", "b"}} {
		if e := w.Put(r); e != api.ErrClosed {
			t.Errorf("%q: %d", r, e)
		}
	}
}

// P11.1: a closed writer is put nothing any more; what there is stays, and is taken as before; it may be closed again.
func TestClosed(t *testing.T) {
	eachDialect(func(d api.Dialect) {
		for n := range 4 {
			for size := range 5 {
				k := newDesk(t, d)
				for range n {
					k.put(mark, "y")
				}
				k.take(size)
				k.close()
				k.put("z")
				k.put()
				k.put("\xff")
				k.take(size)
				k.close()
				k.put(mark)
				k.drain(size, 2)
				k.put("z")
				k.rest()
				k.put("z")
				k.close()
				k.rest()
			}
		}
	})
}

// P11.1: sizes of one Take: below 1, fewer bytes than there are, as many, and more; what was taken is gone.
func TestTakeOnce(t *testing.T) {
	eachDialect(func(d api.Dialect) {
		for n := -3; n < 25; n++ {
			k := newDesk(t, d)
			k.put("é", mark, "x"+one(d.Quote))
			k.put("z")
			k.take(n)
			k.take(n)
			k.rest()
		}
		for _, n := range slices.Concat(farBelow, farAbove) {
			k := newDesk(t, d)
			k.put("a", "b")
			k.take(n)
			k.put("c")
			k.take(n)
			k.rest()
		}
	})
}

// P11.1: piece by piece, of every size, with and without bytes that are put between, and behind Close.
func TestTakePieces(t *testing.T) {
	eachDialect(func(d api.Dialect) {
		for size := 1; size < 30; size++ {
			k := newDesk(t, d)
			for i := range 6 {
				k.put(mark, strings.Repeat("x", i), one(d.Delim))
			}
			for k.w.Ready() > 0 {
				k.take(size)
			}
			for i := range 6 {
				k.put(strings.Repeat("y", i), "é")
				k.take(size)
			}
			k.close()
			for k.w.Ready() > 0 {
				k.take(size)
			}
			k.rest()
		}
	})
}

// P11.1: what is taken is as long as its bytes are, and none is nothing.
func TestTakeNone(t *testing.T) {
	k := newDesk(t, comma(api.LF))
	for range 3 {
		for _, n := range farBelow {
			if b := k.w.Take(n); len(b) != 0 {
				t.Errorf("Take(%d) = %q", n, b)
			}
		}
		k.put("a", "b")
		k.take(3)
	}
	k.rest()
	if b := k.w.Take(1); len(b) != 0 {
		t.Errorf("%q", b)
	}
}

// P11.1: Drain of each size, as far as it goes, and as far as is asked: what isn't asked for stays.
func TestDrain(t *testing.T) {
	eachDialect(func(d api.Dialect) {
		for _, size := range slices.Concat(farBelow, []int{1, 2, 3, 4, 5, 6, 7, 8, 9, 10, 11, 12, 13, 14, 15}, farAbove) {
			for most := range 12 {
				k := newDesk(t, d)
				k.put(mark, "b")
				k.put("c", "é")
				k.drain(size, most)
				k.drain(size, most)
				k.put("d")
				k.drain(size, most)
				k.close()
				k.drain(size, most)
				k.drain(size, math.MaxInt)
				if got := k.drain(size, math.MaxInt); got != 0 || k.w.Ready() != 0 {
					t.Fatalf("%v: Drain(%d) twice: %d pieces, and %d bytes left", d, size, got, k.w.Ready())
				}
				k.rest()
			}
		}
	})
}

// P11.1: Drain written out: pieces of its size, the last one what is left.
func TestDrainWrittenOut(t *testing.T) {
	for size, want := range map[int][]string{
		-1: {"a", ",", "b", "\r", "\n"}, 0: {"a", ",", "b", "\r", "\n"}, 1: {"a", ",", "b", "\r", "\n"}, 2: {"a,", "b\r", "\n"},
		3: {"a,b", "\r\n"}, 4: {"a,b\r", "\n"}, 5: {"a,b\r\n"}, 6: {"a,b\r\n"}, math.MaxInt: {"a,b\r\n"}, math.MinInt: {"a", ",", "b", "\r", "\n"},
	} {
		w, _ := pieces.New(comma(api.CRLF))
		w.Put([]string{"a", "b"})
		var got []string
		for b := range w.Drain(size) {
			got = append(got, string(b))
		}
		if !slices.Equal(got, want) || w.Ready() != 0 {
			t.Errorf("Drain(%d): %q; want %q", size, got, want)
		}
	}
}

// P11.1: Drain takes nothing ahead of being asked, and no piece that isn't asked for.
func TestDrainAsAsked(t *testing.T) {
	k := newDesk(t, comma(api.LF))
	k.put("a", "b")
	all := k.w.Drain(1)
	k.check()
	next, stop := iter.Pull(all)
	k.check()
	for range 2 {
		piece, ok := next()
		if !ok {
			t.Fatal("no piece")
		}
		k.want(piece, 1)
	}
	stop()
	k.check()
	if piece, ok := next(); ok {
		t.Fatalf("%q behind stop", piece)
	}
	k.rest()
}

// P11.1: bytes that are put, or taken, while a writer is drained, and Close meanwhile.
func TestDrainWhileChanged(t *testing.T) {
	eachDialect(func(d api.Dialect) {
		for size := range 9 {
			k := newDesk(t, d)
			k.put(mark, "x")
			n := 0
			for piece := range k.w.Drain(size) {
				k.want(piece, max(size, 1))
				switch n++; n {
				case 1, 2, 5:
					k.put("y", strings.Repeat("z", n))
				case 3:
					k.take(2)
				case 4:
					k.put()
					k.put("\xff")
				case 6:
					k.drain(2, 2)
				case 8:
					k.close()
					k.put("z")
				}
			}
			if k.w.Ready() != 0 {
				t.Fatalf("%v: Drain(%d) left %d bytes", d, size, k.w.Ready())
			}
			k.rest()
		}
	})
}

// P11.1: bytes that are put when none was left, in the last piece's turn, are handed out, too; so are all of a record for each piece.
func TestDrainWhileEmpty(t *testing.T) {
	k := newDesk(t, comma(api.LF))
	k.put("0")
	n := 0
	for piece := range k.w.Drain(100) {
		if string(piece) != strconv.Itoa(n)+"\n" {
			t.Fatalf("piece %d is %q", n, piece)
		}
		k.want(piece, 100)
		if k.w.Ready() != 0 {
			t.Fatal(k.w.Ready())
		}
		if n++; n < 1000 {
			k.put(strconv.Itoa(n))
		}
	}
	if n != 1000 {
		t.Errorf("%d pieces", n)
	}
	k.rest()
}

// P11.1: what Drain answered may be ranged over again: it goes on with what there is then.
func TestDrainAgain(t *testing.T) {
	for size := range 6 {
		k := newDesk(t, comma(api.CRLF))
		all := k.w.Drain(size)
		for range all {
			t.Fatal("a piece of nothing")
		}
		for i := range 4 {
			k.put("a", "b", strings.Repeat("c", i))
			for piece := range all {
				k.want(piece, max(size, 1))
				break
			}
		}
		for range 2 {
			for piece := range all {
				k.want(piece, max(size, 1))
			}
			if k.w.Ready() != 0 {
				t.Fatal(k.w.Ready())
			}
		}
		k.rest()
	}
}

// P11.1: several Drains of one writer, by turns, of which each hands out what is at the front then.
func TestDrainByTurns(t *testing.T) {
	k := newDesk(t, comma(api.LF))
	for i := range 10 {
		k.put(strings.Repeat("x", i), "y")
	}
	one, stopOne := iter.Pull(k.w.Drain(1))
	defer stopOne()
	three, stopThree := iter.Pull(k.w.Drain(3))
	defer stopThree()
	for k.w.Ready() > 0 {
		piece, _ := one()
		k.want(piece, 1)
		piece, _ = three()
		k.want(piece, 3)
	}
	if a, ok := one(); ok {
		t.Errorf("%q", a)
	}
	if b, ok := three(); ok {
		t.Errorf("%q", b)
	}
	k.rest()
}

// P11.1: all pieces that are handed out are the caller's own, and keep what they were: none has any byte of another one, or of what is put later.
func TestPiecesAreOwn(t *testing.T) {
	k := newDesk(t, comma(api.LF))
	var got [][]byte
	var want []string
	keep := func(piece []byte) {
		got = append(got, piece)
		want = append(want, string(piece))
	}
	for i := range 50 {
		r := []string{mark, strings.Repeat("x", i), strconv.Itoa(i)}
		k.w.Put(r)
		keep(k.w.Take(i))
		k.w.Put(r)
		for piece := range k.w.Drain(3) {
			if keep(piece); len(piece)%2 == i%2 {
				break
			}
		}
	}
	keep(k.w.Take(1 << 20))
	for i, b := range got {
		if string(b) != want[i] {
			t.Fatalf("piece %d was %q, and is %q", i, want[i], b)
		}
	}
	for i, b := range got {
		_ = append(b, "changed"...)
		clear(b)
		for j := i + 1; j < len(got); j++ {
			if string(got[j]) != want[j] {
				t.Fatalf("piece %d was %q, and is %q, as piece %d was written into", j, want[j], got[j], i)
			}
		}
	}
}

// P11.1: fields' memory: a record that was put is changed, and so is the list, and nothing of what comes is.
func TestPutKeepsNothing(t *testing.T) {
	w, _ := pieces.New(comma(api.LF))
	r := []string{"a", "b", "c"}
	w.Put(r)
	r[0], r[1] = "changed", "\xff"
	w.Put(r[2:])
	clear(r)
	if b := w.Take(100); string(b) != "a,b,c\nc\n" {
		t.Errorf("%q", b)
	}
}

// P11.1: two writers, of one dialect or of two, don't touch each other.
func TestTwoWriters(t *testing.T) {
	for _, d := range []api.Dialect{comma(api.LF), comma(api.CRLF), {Delim: ';', Quote: 'x', End: api.Either}} {
		a, b := newDesk(t, comma(api.LF)), newDesk(t, d)
		for i := range 20 {
			a.put(mark, strings.Repeat("x", i))
			b.check()
			b.take(i)
			a.check()
			if i%2 == 0 {
				b.put(mark+"y", "a,b")
				a.check()
			}
			a.drain(i, 2)
			b.check()
		}
		b.close()
		a.check()
		a.put("z")
		b.put("z")
		a.rest()
		b.check()
		b.rest()
	}
}

// steps are the calls of which short ways are gone through, all of them.
var steps = []func(*desk){
	func(k *desk) { k.put(mark, "x") },
	func(k *desk) { k.put("") },
	func(k *desk) { k.put() },
	func(k *desk) { k.put("x", "\xff") },
	func(k *desk) { k.take(0) },
	func(k *desk) { k.take(1) },
	func(k *desk) { k.take(4) },
	func(k *desk) { k.drain(2, 2) },
	func(k *desk) { k.drain(3, math.MaxInt) },
	func(k *desk) { k.close() },
}

// P11.1, P11.2: every short way of calls.
func TestEveryWay(t *testing.T) {
	t.Parallel()
	every := func(d api.Dialect, most int) {
		eachList(steps, most, func(way []func(*desk)) {
			k := newDesk(t, d)
			for _, step := range way {
				step(k)
			}
			k.rest()
		})
	}
	every(comma(api.CRLF), 5)
	eachDialect(func(d api.Dialect) { every(d, 3) })
}

// P11.1, P11.2: long ways of calls, by chance, and what was written is read as it was.
func TestRandomWays(t *testing.T) {
	t.Parallel()
	random := rand.New(rand.NewSource(11))
	eachDialect(func(d api.Dialect) {
		for range 60 {
			k := newDesk(t, d)
			for range 120 {
				switch random.Intn(5) {
				case 0, 1, 2:
					k.put(randomRecord(random, d)...)
				case 3:
					k.take(random.Intn(1<<random.Intn(10)) - 1)
				case 4:
					k.drain(random.Intn(1<<random.Intn(8))-1, random.Intn(4))
				}
			}
			k.close()
			k.rest()
			records, fault := whole.Parse(d, widest, string(k.text))
			if fault.Kind != api.OK || !slices.EqualFunc(records, k.records, slices.Equal[[]string]) {
				t.Fatalf("%v: %q is read as %q, %v; want %q", d, k.text, records, fault, k.records)
			}
		}
	})
}

// P11.2: all that was taken, and what there is still, is the table's text, after each call, in pieces of every size.
func TestTableText(t *testing.T) {
	table := [][]string{{mark, ""}, {""}, {mark}, {"a,b", "c\"d"}, {"", ""}, {"\r\n"}, {"it's;", "a\tb", "\x00"}}
	eachDialect(func(d api.Dialect) {
		text, _, _ := write.Table(d, table)
		for size := 1; size <= len(text)+1; size++ {
			w, _ := pieces.New(d)
			taken := ""
			for i, r := range table {
				w.Put(r)
				taken += string(w.Take(size))
				part, _, _ := write.Table(d, table[:i+1])
				if len(taken)+w.Ready() != len(part) || !strings.HasPrefix(part, taken) {
					t.Fatalf("%v: %q, and %d bytes; want %q", d, taken, w.Ready(), part)
				}
			}
			for b := range w.Drain(size) {
				taken += string(b)
			}
			if taken != text {
				t.Fatalf("%v: by %d: %q; want %q", d, size, taken, text)
			}
		}
	})
}

// P11.2: in every right dialect.
func TestTableTextInEveryDialect(t *testing.T) {
	t.Parallel()
	eachRight(t, func(t *testing.T, d api.Dialect) {
		k := newDesk(t, d)
		k.put(mark, one(d.Quote), ",")
		k.take(5)
		k.put(mark, one(d.Delim), "\"")
		k.put("")
		k.drain(3, 2)
		k.put("\r", "\n", ";\t x")
		k.close()
		k.rest()
	})
}

// P1: long fields, very many records, and very many pieces come to their end, byte by byte, too.
func TestLong(t *testing.T) {
	const n = 1 << 18
	d := comma(api.CRLF)
	long := strings.Repeat("x\"", n)
	for _, size := range []int{1, 7, 4096, n + 1, math.MaxInt} {
		k := newDesk(t, d)
		k.put(mark+long, long, "")
		k.put(make([]string, n)...)
		k.put(long + "\xff")
		for k.w.Ready() > 0 {
			k.take(size)
		}
		for i := range n / 8 {
			k.put(strconv.Itoa(i))
		}
		k.drain(size, math.MaxInt)
		k.rest()
	}
}

// P1: a writer that always holds much, of which little is put and taken at a time.
func TestMuchHeld(t *testing.T) {
	k := newDesk(t, comma(api.LF))
	k.put(strings.Repeat("x", 1<<22))
	for range 1 << 18 {
		k.put("y", "z")
		k.take(3)
	}
	k.rest()
}

// P11.1: what was taken is gone: a writer doesn't hold it any more, even where a little is left.
func TestGoneIsNotHeld(t *testing.T) {
	const n, left = 1 << 26, 16
	w, _ := pieces.New(comma(api.LF))
	w.Put([]string{strings.Repeat("x", n)})
	full := held()
	w.Take(n - left)
	if now := held(); now > full-n/2 {
		t.Errorf("%d bytes were held when %d were there, and %d when %d are", full, n, now, w.Ready())
	}
	if b := w.Take(n); string(b) != strings.Repeat("x", left)+"\n" {
		t.Errorf("%q", b)
	}
}

// held is how many bytes of memory are held.
func held() int {
	runtime.GC()
	var stats runtime.MemStats
	runtime.ReadMemStats(&stats)
	return int(stats.HeapAlloc)
}

func FuzzWriter(f *testing.F) {
	f.Add(byte(','), byte('"'), byte(1), "a,\"b\"", "", mark, 1, 2)
	f.Add(byte(';'), byte('\''), byte(2), mark, "it's", "\xff", 3, -1)
	f.Add(byte('\t'), byte(0), byte(3), "", "\r\n", "\x00\t", 0, 9)
	f.Fuzz(func(t *testing.T, delim, quote, end byte, a, b, c string, n, size int) {
		d := api.Dialect{Delim: delim, Quote: quote, End: int(end % 5)}
		if !isRight(d) {
			if w, e := pieces.New(d); w != nil || e != api.ErrDialect {
				t.Fatalf("New(%v) = %v, %d", d, w, e)
			}
			return
		}
		k := newDesk(t, d)
		k.put(a)
		k.take(n)
		k.put(b, c)
		k.drain(size, 3)
		k.put(c, a)
		k.take(size)
		k.put()
		k.put(c)
		k.drain(n, math.MaxInt)
		k.close()
		k.put(b)
		k.rest()
	})
}
