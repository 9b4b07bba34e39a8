package read_test

import (
	"bytes"
	"iter"
	"math"
	"math/rand"
	"runtime"
	"slices"
	"strconv"
	"strings"
	"testing"

	"quillpen/api"
	"quillpen/cuts"
	"quillpen/pieces"
	"quillpen/read"
	"quillpen/whole"
	"quillpen/write"
)

const mark = "\xef\xbb\xbf"

var ends = []int{api.LF, api.CRLF, api.Either}

// dialects are right ones, but for their End: usual ones, bytes that no text has, letters, and ones beside the ends of line.
var dialects = []api.Dialect{
	{Delim: ',', Quote: '"'},
	{Delim: ';', Quote: '\''},
	{Delim: '\t', Quote: 0},
	{Delim: 0, Quote: 0x7f},
	{Delim: 'a', Quote: 'b'},
	{Delim: '"', Quote: ','},
	{Delim: 0x0b, Quote: 0x0c},
	{Delim: 0x09, Quote: 0x0e},
}

var (
	widest = api.Limits{Field: api.MaxLimit, Fields: api.MaxLimit, Records: api.MaxLimit}
	roomy  = api.Limits{Field: 1000, Fields: 1000, Records: 1000}
	// within are three different numbers, so that none passes for another.
	within   = api.Limits{Field: 4, Fields: 3, Records: 2}
	smallest = api.Limits{Field: 1, Fields: 1, Records: 1}
)

func uniform(l api.Limits) api.Limits {
	l.Uniform = true
	return l
}

func comma(end int) api.Dialect { return api.Dialect{Delim: ',', Quote: '"', End: end} }

// eachDialect hands out each right one of them with each end.
func eachDialect(f func(api.Dialect)) {
	for _, d := range dialects {
		for _, end := range ends {
			d.End = end
			f(d)
		}
	}
}

// isRight is layer 1's word.
func isRight(d api.Dialect) bool {
	for _, b := range []byte{d.Delim, d.Quote} {
		if b >= 0x80 || b == 0x0d || b == 0x0a {
			return false
		}
	}
	return d.Delim != d.Quote && slices.Contains(ends, d.End)
}

// eachEnd runs a test of each end at the same time as those of the others.
func eachEnd(t *testing.T, f func(*testing.T, int)) {
	for _, end := range ends {
		t.Run(strconv.Itoa(end), func(t *testing.T) {
			t.Parallel()
			f(t, end)
		})
	}
}

// eachText hands out every text of at most so many of these parts.
func eachText(parts []string, most int, f func(string)) {
	var add func(s string, n int)
	add = func(s string, n int) {
		f(s)
		if n == most {
			return
		}
		for _, part := range parts {
			add(s+part, n+1)
		}
	}
	add("", 0)
}

// letters are a text's bytes, each a text.
func letters(s string) []string {
	l := make([]string, len(s))
	for i := range l {
		l[i] = s[i : i+1]
	}
	return l
}

// eachNarrow hands out all limits up to these numbers.
func eachNarrow(field, fields, records int, f func(api.Limits)) {
	for i := range field * fields * records {
		l := api.Limits{Field: 1 + i%field, Fields: 1 + i/field%fields, Records: 1 + i/field/fields}
		f(l)
		f(uniform(l))
	}
}

func same(a, b [][]string) bool { return slices.EqualFunc(a, b, slices.Equal[[]string]) }

// spoil overwrites all the memory that a record reaches.
func spoil(record []string) {
	record = record[:cap(record)]
	for i := range record {
		record[i] = "spoilt"
	}
}

// state is what there is of a text, and what is wrong with it.
type state struct {
	records [][]string
	fault   api.Fault
}

func parsed(d api.Dialect, l api.Limits, s string) state {
	records, fault := whole.Parse(d, l, s)
	return state{records, fault}
}

// teller tells what the chapter says of the texts of a dialect and limits, by layer 6's Parse of texts that are there all at once.
type teller struct {
	d     api.Dialect
	l     api.Limits
	known map[string]state // what it told of texts that go on
	ended map[string]state // and of closed ones
}

func newTeller(d api.Dialect, l api.Limits) *teller {
	return &teller{d, l, map[string]state{}, map[string]state{}}
}

// byNow is what any text has that begins so. Behind FF nothing goes on, and nothing is whole
// that wasn't so ahead of it; a fault that is there with it, with nothing and with the rest of
// the mark is in each other text, too (TestAnyTextThatBeginsSo asks many of them).
func (k *teller) byNow(s string) state {
	if now, ok := k.known[s]; ok {
		return now
	}
	now := parsed(k.d, k.l, s+"\xff")
	for _, rest := range []string{"", mark[2:], mark[1:]} {
		if whole.First(k.d, k.l, s+rest) != now.fault {
			now.fault = api.Fault{}
			break
		}
	}
	k.known[s] = now
	return now
}

// closed is what a text has that nothing comes behind.
func (k *teller) closed(s string) state {
	if now, ok := k.ended[s]; ok {
		return now
	}
	now := parsed(k.d, k.l, s)
	k.ended[s] = now
	return now
}

// spare is what stands in the room behind the pieces that are handed in.
const spare = "spare"

// desk is a reader, and beside it what the chapter says of it: each call is told to both, and all that can be asked of the reader without changing it is asked behind each.
type desk struct {
	t      *testing.T
	k      *teller
	r      *read.Reader
	text   string // what it was fed and took
	now    state
	handed int
	closed bool
}

func newDesk(t *testing.T, k *teller) *desk {
	r, e := read.New(k.d, k.l)
	if r == nil || e != api.OK {
		t.Helper()
		t.Fatalf("New(%v, %v) = %v, %d", k.d, k.l, r, e)
	}
	desk := &desk{t: t, k: k, r: r}
	desk.check()
	return desk
}

// offset is how many bytes it has taken.
func (k *desk) offset() int {
	if k.now.fault.Kind != api.OK {
		return k.now.fault.At
	}
	return len(k.text)
}

// short is the beginning of a long text.
func short(s string) string { return s[:min(len(s), 1000)] }

func (k *desk) check() {
	fault, closed, count, offset := k.r.Fault(), k.r.Closed(), k.r.Count(), k.r.Offset()
	if fault != k.now.fault || closed != k.closed || count != len(k.now.records) || offset != k.offset() {
		k.t.Helper()
		k.t.Fatalf("%v, %v: behind %q: Fault %v, Closed %v, Count %d, Offset %d; want %v, %v, %d, %d",
			k.k.d, k.k.l, short(k.text), fault, closed, count, offset, k.now.fault, k.closed, len(k.now.records), k.offset())
	}
}

// feed feeds a piece, and asks that it isn't written into; behind that the piece is written into, as no reader keeps it.
func (k *desk) feed(piece string) {
	if !k.closed && k.now.fault.Kind == api.OK {
		k.text += piece
		k.now = k.k.byNow(k.text)
	}
	given := []byte(piece + spare)
	fault := k.r.Feed(given[:len(piece)])
	if fault != k.now.fault || string(given) != piece+spare {
		k.t.Helper()
		k.t.Fatalf("%v, %v: %q: Feed(%q) = %v, and it is %q; want %v", k.k.d, k.k.l, short(k.text), piece, fault, given, k.now.fault)
	}
	for i := range given {
		given[i] = '!'
	}
	k.check()
}

func (k *desk) feedAll(pieces []string) {
	for _, piece := range pieces {
		k.feed(piece)
	}
}

func (k *desk) close() {
	if !k.closed && k.now.fault.Kind == api.OK {
		k.now = k.k.closed(k.text)
	}
	k.closed = true
	if fault := k.r.Close(); fault != k.now.fault {
		k.t.Helper()
		k.t.Fatalf("%v, %v: %q: Close() = %v; want %v", k.k.d, k.k.l, short(k.text), fault, k.now.fault)
	}
	k.check()
}

// want holds a record that was handed out against the first one that wasn't so yet; behind that the record is written into, as it is the caller's own.
func (k *desk) want(record []string) {
	if k.handed >= len(k.now.records) || !slices.Equal(record, k.now.records[k.handed]) {
		k.t.Helper()
		k.t.Fatalf("%v, %v: %q: record %d is %q; want one of %q", k.k.d, k.k.l, short(k.text), k.handed, record, k.now.records)
	}
	k.handed++
	spoil(record)
	k.check()
}

// next asks for a record, and tells whether there was one: whether there should be is asked, too.
func (k *desk) next() bool {
	record, ok := k.r.Next()
	if ok != (k.handed < len(k.now.records)) || !ok && len(record) != 0 {
		k.t.Helper()
		k.t.Fatalf("%v, %v: %q: behind %d of %d records: Next() = %q, %v", k.k.d, k.k.l, short(k.text), k.handed, len(k.now.records), record, ok)
	}
	if ok {
		k.want(record)
	}
	k.check()
	return ok
}

// rows ranges over records, at most so many, and answers how many it got: as many as there should be.
func (k *desk) rows(most int) int {
	n := 0
	want := min(most, len(k.now.records)-k.handed)
	if most > 0 {
		for number, record := range k.r.Rows() {
			if number != k.handed {
				k.t.Fatalf("%q: number %d; want %d", short(k.text), number, k.handed)
			}
			k.want(record)
			if n++; n == most {
				break
			}
		}
	}
	if n != want {
		k.t.Helper()
		k.t.Fatalf("%q: Rows has handed out %d records; want %d", short(k.text), n, want)
	}
	k.check()
	return n
}

// rest gets all records that there are still, and asks that there are no more then.
func (k *desk) rest() {
	k.t.Helper()
	k.rows(math.MaxInt)
	if k.handed != len(k.now.records) || k.next() || k.rows(1) != 0 {
		k.t.Fatalf("%q: %d of %d records", short(k.text), k.handed, len(k.now.records))
	}
}

// through reads a text in these pieces, with each record asked for as soon as it may be there, or all of them at last.
func through(t *testing.T, k *teller, all []string, soon bool) {
	t.Helper()
	desk := newDesk(t, k)
	for _, piece := range all {
		desk.feed(piece)
		for soon && desk.next() {
		}
	}
	desk.close()
	desk.rest()
}

// eachCut reads a text at once, byte by byte, and cut in every way.
func eachCut(t *testing.T, d api.Dialect, l api.Limits, s string) {
	t.Helper()
	k := newTeller(d, l)
	soon := false
	for all := range cuts.Each(s) {
		through(t, k, all, soon)
		soon = !soon
	}
	through(t, k, []string{s}, true)
	through(t, k, letters(s), false)
	through(t, k, letters(s), true)
}

// someCuts reads a text at once, byte by byte, by other sizes, with empty pieces between, and cut in two at each place.
func someCuts(t *testing.T, d api.Dialect, l api.Limits, s string) {
	t.Helper()
	k := newTeller(d, l)
	through(t, k, []string{s}, false)
	through(t, k, letters(s), true)
	through(t, k, cuts.By(s, 1, 0, 2), false)
	through(t, k, cuts.By(s, 0, 3, 2), true)
	for place := range len(s) {
		through(t, k, cuts.At(s, place), place%2 == 0)
	}
}

// P12.1: the chapter's example.
func TestChaptersExample(t *testing.T) {
	r, e := read.New(comma(api.LF), roomy)
	if e != api.OK {
		t.Fatal(e)
	}
	if f := r.Feed([]byte(`a,"b`)); f != (api.Fault{}) || r.Count() != 0 {
		t.Error(f, r.Count())
	}
	if record, ok := r.Next(); ok || len(record) != 0 {
		t.Errorf("%q", record)
	}
	if f := r.Feed([]byte("\"\n")); f != (api.Fault{}) || r.Count() != 1 {
		t.Error(f, r.Count())
	}
	if record, ok := r.Next(); !ok || !slices.Equal(record, []string{"a", "b"}) {
		t.Errorf("%q", record)
	}
}

// wrongLimits are those that aren't right, by each part of them.
func wrongLimits() []api.Limits {
	var all []api.Limits
	for _, n := range []int{0, -1, math.MinInt, api.MaxLimit + 1, math.MaxInt} {
		all = append(all,
			api.Limits{Field: n, Fields: 9, Records: 9},
			api.Limits{Field: 9, Fields: n, Records: 9},
			api.Limits{Field: 9, Fields: 9, Records: n, Uniform: true},
			api.Limits{Field: n, Fields: n, Records: n})
	}
	return all
}

// P12.1: New: no reader of a dialect that isn't right, whatever the limits, nor of limits that aren't; a reader of nothing of others.
func TestNew(t *testing.T) {
	for _, end := range []int{math.MinInt, -1, 0, api.LF, api.CRLF, api.Either, 4, math.MaxInt} {
		for delim := range 0x100 {
			for quote := range 0x100 {
				d := api.Dialect{Delim: byte(delim), Quote: byte(quote), End: end}
				want := api.ErrLimits
				if isRight(d) {
					newDesk(t, newTeller(d, widest))
				} else {
					want = api.ErrDialect
					wantNone(t, d, widest, want)
				}
				wantNone(t, d, api.Limits{}, want)
			}
		}
	}
	for _, l := range wrongLimits() {
		eachDialect(func(d api.Dialect) { wantNone(t, d, l, api.ErrLimits) })
		wantNone(t, api.Dialect{}, l, api.ErrDialect)
		wantNone(t, comma(4), l, api.ErrDialect)
	}
}

func wantNone(t *testing.T, d api.Dialect, l api.Limits, want api.Errno) {
	t.Helper()
	if r, e := read.New(d, l); r != nil || e != want {
		t.Fatalf("New(%v, %v) = %v, %d; want %d", d, l, r, e, want)
	}
}

// P12.1: limits at their edges are right.
func TestLimitsAtTheirEdges(t *testing.T) {
	for _, n := range []int{1, api.MaxLimit} {
		for _, l := range []api.Limits{
			{Field: n, Fields: 1, Records: 1},
			{Field: 1, Fields: n, Records: 1},
			{Field: 1, Fields: 1, Records: n},
			{Field: n, Fields: n, Records: n},
		} {
			for _, s := range []string{"", "a", "a,b\nc\n", "ab", mark + "a", mark[:2], "a\nb\"", "a\n\xff", "\"a"} {
				someCuts(t, comma(api.LF), l, s)
				someCuts(t, comma(api.LF), uniform(l), s)
			}
		}
	}
}

// P12.1: a reader that was fed nothing, or no bytes.
func TestNothingFed(t *testing.T) {
	eachDialect(func(d api.Dialect) {
		for n := range 4 {
			k := newDesk(t, newTeller(d, roomy))
			for range n {
				k.feed("")
				if f := k.r.Feed(nil); f != (api.Fault{}) {
					t.Fatal(f)
				}
				k.rest()
			}
			k.close()
			k.feed("")
			k.rest()
			k.close()
			k.rest()
		}
	})
}

// written are texts, with their records and faults written out, so that nothing hangs on layer 6.
var written = []struct {
	name  string
	d     api.Dialect
	l     api.Limits
	s     string
	want  [][]string
	fault api.Fault
}{
	{"no text", comma(api.LF), roomy, "", nil, api.Fault{}},
	{"an empty line", comma(api.LF), roomy, "\n", nil, api.Fault{}},
	{"empty lines about records", comma(api.CRLF), roomy, "\r\na\r\n\r\nb\r\n", [][]string{{"a"}, {"b"}}, api.Fault{}},
	{"LF", comma(api.LF), roomy, "a,\"b\"\"c\"\n\nd", [][]string{{"a", `b"c`}, {"d"}}, api.Fault{}},
	{"CRLF", comma(api.CRLF), roomy, "a,\"\r\"\r\n\"\r\n\"", [][]string{{"a", "\r"}, {"\r\n"}}, api.Fault{}},
	{"either end by turns", comma(api.Either), roomy, "a\nb,c\r\n\r\nd\n", [][]string{{"a"}, {"b", "c"}, {"d"}}, api.Fault{}},
	{"fields without bytes", comma(api.LF), roomy, ",\n\"\"\n,a", [][]string{{"", ""}, {""}, {"", "a"}}, api.Fault{}},
	{"a field of Quotes", comma(api.LF), roomy, "\"\"\"\"\"\",\"\"", [][]string{{`""`, ""}}, api.Fault{}},
	{"another dialect", api.Dialect{Delim: ';', Quote: '\'', End: api.LF}, roomy, "a;'b''c';\"d,\"\n", [][]string{{"a", "b'c", `"d,"`}}, api.Fault{}},
	{"characters of each length", comma(api.LF), roomy, "é,€\n\"😀\"", [][]string{{"é", "€"}, {"😀"}}, api.Fault{}},

	{"the mark alone", comma(api.LF), roomy, mark, nil, api.Fault{}},
	{"the mark", comma(api.CRLF), roomy, mark + "a,b\r\nc", [][]string{{"a", "b"}, {"c"}}, api.Fault{}},
	{"the mark ahead of a quoted field", comma(api.LF), roomy, mark + "\"a\"", [][]string{{"a"}}, api.Fault{}},
	{"the mark twice", comma(api.LF), roomy, mark + mark, [][]string{{mark}}, api.Fault{}},
	{"the mark elsewhere", comma(api.LF), roomy, "a" + mark + "\n" + mark + "b", [][]string{{"a" + mark}, {mark + "b"}}, api.Fault{}},
	{"the mark behind an empty line", comma(api.LF), roomy, "\n" + mark + "a", [][]string{{mark + "a"}}, api.Fault{}},
	{"the mark's first bytes alone", comma(api.LF), roomy, mark[:2], nil, api.Fault{Kind: api.ErrCut, At: 2}},
	{"the mark's first byte and another one", comma(api.LF), roomy, mark[:1] + "a", nil, api.Fault{Kind: api.ErrUtf8, At: 1}},
	{"the mark's first bytes and another one", comma(api.LF), roomy, mark[:2] + "\n", nil, api.Fault{Kind: api.ErrUtf8, At: 2}},
	{"the mark's first bytes and one that goes on", comma(api.LF), roomy, mark[:2] + "\xbe,", [][]string{{"\uFEFE", ""}}, api.Fault{}},
	{"the mark's first byte and one that goes on", comma(api.LF), roomy, mark[:1] + "\xbc\xbf\n", [][]string{{"\uFF3F"}}, api.Fault{}},
	{"the mark and a fault", comma(api.LF), roomy, mark + "a\nb\"", [][]string{{"a"}}, api.Fault{Kind: api.ErrQuote, At: 6}},
	{"the mark and an open quote", comma(api.LF), roomy, mark + "\"", nil, api.Fault{Kind: api.ErrOpen, At: 4}},
	{"the mark and a part of it", comma(api.LF), roomy, mark + mark[:2], nil, api.Fault{Kind: api.ErrCut, At: 5}},
	{"the mark is no field's", comma(api.LF), smallest, mark + "a", [][]string{{"a"}}, api.Fault{}},
	{"what begins as the mark does is a field's", comma(api.LF), smallest, mark[:2], nil, api.Fault{Kind: api.ErrField, At: 1}},
	{"so it is when another byte comes", comma(api.LF), smallest, mark[:2] + "a", nil, api.Fault{Kind: api.ErrField, At: 1}},
	{"its third byte is one too many", comma(api.LF), api.Limits{Field: 2, Fields: 1, Records: 1}, mark[:2] + "\xbe", nil, api.Fault{Kind: api.ErrField, At: 2}},

	{"ErrUtf8 first", comma(api.LF), roomy, "\x80a\nb\n", nil, api.Fault{Kind: api.ErrUtf8, At: 0}},
	{"ErrUtf8 in the middle", comma(api.LF), roomy, "a\nb\xc3,c\nd", [][]string{{"a"}}, api.Fault{Kind: api.ErrUtf8, At: 4}},
	{"ErrUtf8 within quotes", comma(api.LF), roomy, "a\n\"b\xe0\x9f\"", [][]string{{"a"}}, api.Fault{Kind: api.ErrUtf8, At: 5}},
	{"ErrUtf8 at an end of line", comma(api.LF), roomy, "a\nb\xc3\nc", [][]string{{"a"}}, api.Fault{Kind: api.ErrUtf8, At: 4}},
	{"ErrUtf8 last", comma(api.LF), roomy, "a\nb\n\xff", [][]string{{"a"}, {"b"}}, api.Fault{Kind: api.ErrUtf8, At: 4}},
	{"ErrQuote first", comma(api.LF), roomy, "a\"b\"\n", nil, api.Fault{Kind: api.ErrQuote, At: 1}},
	{"ErrQuote in the middle", comma(api.LF), roomy, "a\nb,c\"\nd", [][]string{{"a"}}, api.Fault{Kind: api.ErrQuote, At: 5}},
	{"ErrAfter", comma(api.LF), roomy, "a\n\"b\" ,c\n", [][]string{{"a"}}, api.Fault{Kind: api.ErrAfter, At: 5}},
	{"ErrAfter behind doubled quotes", comma(api.LF), roomy, "a\nb,\"\"\"\"c", [][]string{{"a"}}, api.Fault{Kind: api.ErrAfter, At: 8}},
	{"ErrEnd: LF", comma(api.LF), roomy, "a\nb,c\r\nd", [][]string{{"a"}}, api.Fault{Kind: api.ErrEnd, At: 5}},
	{"ErrEnd: CRLF", comma(api.CRLF), roomy, "a\r\n\"b\"\nd", [][]string{{"a"}}, api.Fault{Kind: api.ErrEnd, At: 6}},
	{"ErrEnd: Either", comma(api.Either), roomy, "a\nb\r,c", [][]string{{"a"}}, api.Fault{Kind: api.ErrEnd, At: 4}},
	{"ErrEnd behind a carriage return alone", comma(api.CRLF), roomy, "\r\ra", nil, api.Fault{Kind: api.ErrEnd, At: 1}},
	{"ErrEnd at the end", comma(api.CRLF), roomy, "a\r\nb\r", [][]string{{"a"}}, api.Fault{Kind: api.ErrEnd, At: 5}},
	{"ErrEnd at the end of an empty line", comma(api.Either), roomy, "a\n\r", [][]string{{"a"}}, api.Fault{Kind: api.ErrEnd, At: 3}},
	{"ErrCut", comma(api.LF), roomy, "a\nb,\xf0\x9f\x98", [][]string{{"a"}}, api.Fault{Kind: api.ErrCut, At: 7}},
	{"ErrCut ahead of ErrOpen", comma(api.LF), roomy, "a\n\"b\xe2\x82", [][]string{{"a"}}, api.Fault{Kind: api.ErrCut, At: 6}},
	{"ErrCut ahead of ErrWidth", comma(api.LF), uniform(roomy), "a,b\n\xc3", [][]string{{"a", "b"}}, api.Fault{Kind: api.ErrCut, At: 5}},
	{"ErrOpen", comma(api.LF), roomy, "a\n\"b\n", [][]string{{"a"}}, api.Fault{Kind: api.ErrOpen, At: 5}},
	{"ErrOpen behind a doubled quote", comma(api.LF), roomy, "a\n\"b\"\"", [][]string{{"a"}}, api.Fault{Kind: api.ErrOpen, At: 6}},
	{"ErrOpen, not ErrWidth", comma(api.LF), uniform(roomy), "a,b\n\"c", [][]string{{"a", "b"}}, api.Fault{Kind: api.ErrOpen, At: 6}},

	{"limits that are just met", comma(api.LF), within, "abcd,éé,d\n,,\n\n", [][]string{{"abcd", "éé", "d"}, {"", "", ""}}, api.Fault{}},
	{"ErrRecords", comma(api.LF), within, "a\nb\n\nc", [][]string{{"a"}, {"b"}}, api.Fault{Kind: api.ErrRecords, At: 5}},
	{"ErrRecords ahead of ErrFields", comma(api.LF), smallest, "a\n,", [][]string{{"a"}}, api.Fault{Kind: api.ErrRecords, At: 2}},
	{"ErrField", comma(api.LF), within, "a\nb,cdefg,h", [][]string{{"a"}}, api.Fault{Kind: api.ErrField, At: 8}},
	{"ErrField within quotes", comma(api.LF), within, "a\n\"b\n\nc,\"", [][]string{{"a"}}, api.Fault{Kind: api.ErrField, At: 7}},
	{"ErrField within a character", comma(api.LF), within, "abc\xe2\x82\xac", nil, api.Fault{Kind: api.ErrField, At: 4}},
	{"ErrFields", comma(api.LF), within, "a,b,c\nd,e,f,g", [][]string{{"a", "b", "c"}}, api.Fault{Kind: api.ErrFields, At: 11}},
	{"ErrFields ahead of ErrWidth", comma(api.LF), uniform(within), "a,b,c\nd,e,f,", [][]string{{"a", "b", "c"}}, api.Fault{Kind: api.ErrFields, At: 11}},
	{"ErrWidth at a Delim", comma(api.LF), uniform(within), "a,b\nc,d,e", [][]string{{"a", "b"}}, api.Fault{Kind: api.ErrWidth, At: 7}},
	{"ErrWidth at a line feed", comma(api.LF), uniform(within), "a,b\nc\n", [][]string{{"a", "b"}}, api.Fault{Kind: api.ErrWidth, At: 5}},
	{"ErrWidth at a carriage return", comma(api.CRLF), uniform(within), "a,b\r\nc\r\n", [][]string{{"a", "b"}}, api.Fault{Kind: api.ErrWidth, At: 6}},
	{"ErrWidth at the end", comma(api.LF), uniform(within), "a,b\n\"c\"", [][]string{{"a", "b"}}, api.Fault{Kind: api.ErrWidth, At: 7}},
	{"ErrWidth by the first record", comma(api.LF), uniform(roomy), mark + "\na,b\nc,d\ne", [][]string{{"a", "b"}, {"c", "d"}}, api.Fault{Kind: api.ErrWidth, At: 13}},

	{"ErrUtf8 ahead of ErrQuote", comma(api.LF), roomy, "a\xc3\"", nil, api.Fault{Kind: api.ErrUtf8, At: 2}},
	{"ErrUtf8 ahead of ErrAfter", comma(api.LF), roomy, "\"a\"\x80", nil, api.Fault{Kind: api.ErrUtf8, At: 3}},
	{"ErrUtf8 ahead of ErrEnd", comma(api.CRLF), roomy, "a\r\xff", nil, api.Fault{Kind: api.ErrUtf8, At: 2}},
	{"ErrUtf8 ahead of ErrField", comma(api.LF), within, "abcd\x80", nil, api.Fault{Kind: api.ErrUtf8, At: 4}},
	{"ErrUtf8 ahead of ErrRecords", comma(api.LF), within, "a\nb\n\x80", [][]string{{"a"}, {"b"}}, api.Fault{Kind: api.ErrUtf8, At: 4}},
	{"ErrQuote ahead of ErrField", comma(api.LF), within, "abcd\"", nil, api.Fault{Kind: api.ErrQuote, At: 4}},
	{"ErrAfter ahead of ErrField", comma(api.LF), within, "\"abcd\"e", nil, api.Fault{Kind: api.ErrAfter, At: 6}},
	{"ErrEnd ahead of ErrWidth", comma(api.LF), uniform(within), "a,b\nc\r\n", [][]string{{"a", "b"}}, api.Fault{Kind: api.ErrEnd, At: 5}},
	{"ErrEnd ahead of ErrRecords", comma(api.LF), within, "a\nb\n\r", [][]string{{"a"}, {"b"}}, api.Fault{Kind: api.ErrEnd, At: 4}},
	{"the first place counts: ErrField ahead of ErrUtf8", comma(api.LF), within, "abcde\x80", nil, api.Fault{Kind: api.ErrField, At: 4}},
	{"the first place counts: ErrQuote ahead of ErrUtf8", comma(api.LF), roomy, "a\"\x80", nil, api.Fault{Kind: api.ErrQuote, At: 1}},
}

// P12.1, P12.2: each of these texts, in every way to cut it.
func TestWrittenOut(t *testing.T) {
	for _, c := range written {
		t.Run(c.name, func(t *testing.T) {
			t.Parallel()
			if cuts.Join(letters(c.s)) != c.s || len(c.s) > 16 {
				t.Fatal("a text that isn't cut")
			}
			for all := range cuts.Each(c.s) {
				r, _ := read.New(c.d, c.l)
				for _, piece := range all {
					r.Feed([]byte(piece))
				}
				fault := r.Close()
				var got [][]string
				for n, record := range r.Rows() {
					if n != len(got) {
						t.Errorf("%q: number %d of record %d", all, n, len(got))
					}
					got = append(got, record)
				}
				if fault != c.fault || r.Fault() != c.fault || !r.Closed() || r.Count() != len(c.want) || !same(got, c.want) {
					t.Fatalf("%q: %q, %v, %v, %d; want %q, %v", all, got, fault, r.Fault(), r.Count(), c.want, c.fault)
				}
			}
			// That what is told by layer 6 agrees is why the other tests may hang on it.
			eachCut(t, c.d, c.l, c.s)
		})
	}
}

// tells is a piece that is fed, and what is told then: the fault, Count and Offset.
type tells struct {
	piece  string
	fault  api.Fault
	count  int
	offset int
}

// P12.1: what is told behind each piece, written out.
func TestToldBehindEachPiece(t *testing.T) {
	none := api.Fault{}
	for _, c := range []struct {
		name  string
		d     api.Dialect
		l     api.Limits
		tells []tells
		close tells
	}{
		{"a record is whole with its line feed", comma(api.LF), roomy, []tells{{"a", none, 0, 1}, {",b", none, 0, 3}, {"\n", none, 1, 4}, {"", none, 1, 4}, {"\nc\nd\ne", none, 3, 10}}, tells{"", none, 4, 10}},
		{"not with its carriage return", comma(api.CRLF), roomy, []tells{{"a\r", none, 0, 2}, {"\n", none, 1, 3}, {"\r", none, 1, 4}, {"\nb\r", none, 1, 7}, {"c", api.Fault{Kind: api.ErrEnd, At: 7}, 1, 7}, {"\n", api.Fault{Kind: api.ErrEnd, At: 7}, 1, 7}}, tells{"", api.Fault{Kind: api.ErrEnd, At: 7}, 1, 7}},
		{"neither where a line feed alone would do", comma(api.Either), roomy, []tells{{"a\r", none, 0, 2}, {"\n", none, 1, 3}, {"b", none, 1, 4}, {"\n\r", none, 2, 6}}, tells{"", api.Fault{Kind: api.ErrEnd, At: 6}, 2, 6}},
		{"a quotation mark within quotes may be the first of two", comma(api.LF), roomy, []tells{{"\"a\"", none, 0, 3}, {"\"", none, 0, 4}, {"\n", none, 0, 5}, {"\"", none, 0, 6}, {"\n\"\"", none, 1, 9}, {"b", api.Fault{Kind: api.ErrAfter, At: 9}, 1, 9}}, tells{"", api.Fault{Kind: api.ErrAfter, At: 9}, 1, 9}},
		{"a last record is whole with the end", comma(api.LF), roomy, []tells{{"a\n\"b\"", none, 1, 5}}, tells{"", none, 2, 5}},
		{"so is one behind a Delim", comma(api.LF), roomy, []tells{{"a,", none, 0, 2}}, tells{"", none, 1, 2}},
		{"an open quote", comma(api.LF), roomy, []tells{{"a\n\"b\n", none, 1, 5}}, tells{"", api.Fault{Kind: api.ErrOpen, At: 5}, 1, 5}},
		{"a cut sequence", comma(api.LF), roomy, []tells{{"a\nb\xe2", none, 1, 4}, {"\x82", none, 1, 5}}, tells{"", api.Fault{Kind: api.ErrCut, At: 5}, 1, 5}},
		{"a sequence that doesn't go on", comma(api.LF), roomy, []tells{{"a\nb\xe2\x82", none, 1, 5}, {"\n\xac", api.Fault{Kind: api.ErrUtf8, At: 5}, 1, 5}}, tells{"", api.Fault{Kind: api.ErrUtf8, At: 5}, 1, 5}},
		{"records ahead of a fault within one piece", comma(api.LF), roomy, []tells{{"a\nb\nc\"d\ne\n", api.Fault{Kind: api.ErrQuote, At: 5}, 2, 5}, {"f\n", api.Fault{Kind: api.ErrQuote, At: 5}, 2, 5}}, tells{"", api.Fault{Kind: api.ErrQuote, At: 5}, 2, 5}},
		{"the mark", comma(api.LF), roomy, []tells{{mark[:1], none, 0, 1}, {mark[1:2], none, 0, 2}, {mark[2:], none, 0, 3}, {"a\n", none, 1, 5}}, tells{"", none, 1, 5}},
		{"a beginning of the mark is no fault yet, though it is one without the rest", comma(api.LF), smallest, []tells{{mark[:2], none, 0, 2}, {mark[2:] + "a", none, 0, 4}}, tells{"", none, 1, 4}},
		{"what was kept back is wrong then: the place is behind", comma(api.LF), smallest, []tells{{mark[:1], none, 0, 1}, {mark[1:2], none, 0, 2}, {"\xbe", api.Fault{Kind: api.ErrField, At: 1}, 0, 1}}, tells{"", api.Fault{Kind: api.ErrField, At: 1}, 0, 1}},
		{"or with the end", comma(api.LF), smallest, []tells{{mark[:2], none, 0, 2}}, tells{"", api.Fault{Kind: api.ErrField, At: 1}, 0, 1}},
		{"a beginning of the mark behind something is no such thing", comma(api.LF), api.Limits{Field: 2, Fields: 2, Records: 2}, []tells{{"a", none, 0, 1}, {mark[:1], none, 0, 2}, {mark[1:2], api.Fault{Kind: api.ErrField, At: 2}, 0, 2}}, tells{"", api.Fault{Kind: api.ErrField, At: 2}, 0, 2}},
		{"too few fields at the end", comma(api.LF), uniform(roomy), []tells{{"a,b\nc", none, 1, 5}}, tells{"", api.Fault{Kind: api.ErrWidth, At: 5}, 1, 5}},
		{"too few fields at a carriage return", comma(api.CRLF), uniform(roomy), []tells{{"a,b\r\nc", none, 1, 6}, {"\r", api.Fault{Kind: api.ErrWidth, At: 6}, 1, 6}}, tells{"", api.Fault{Kind: api.ErrWidth, At: 6}, 1, 6}},
		{"a record too many", comma(api.LF), smallest, []tells{{"a\n", none, 1, 2}, {"\n\n", none, 1, 4}, {"\"", api.Fault{Kind: api.ErrRecords, At: 4}, 1, 4}}, tells{"", api.Fault{Kind: api.ErrRecords, At: 4}, 1, 4}},
		{"a field too many", comma(api.LF), smallest, []tells{{"a", none, 0, 1}, {",", api.Fault{Kind: api.ErrFields, At: 1}, 0, 1}}, tells{"", api.Fault{Kind: api.ErrFields, At: 1}, 0, 1}},
	} {
		t.Run(c.name, func(t *testing.T) {
			r, _ := read.New(c.d, c.l)
			for i, w := range append(c.tells, c.close) {
				closing := i == len(c.tells)
				got := tells{piece: w.piece}
				if closing {
					got.fault = r.Close()
				} else {
					got.fault = r.Feed([]byte(w.piece))
				}
				got.count, got.offset = r.Count(), r.Offset()
				if got != w || r.Fault() != w.fault || r.Closed() != closing {
					t.Errorf("piece %d: %v, Fault %v, Closed %v; want %v", i, got, r.Fault(), r.Closed(), w)
				}
			}
		})
	}
}

// goings are ends that a text may have: whatever has to do with a quote, a line, a sequence or the mark that is begun.
var goings = []string{
	"", "\n", "\r\n", "\r", ",", "\"", "\"\n", "\"\r\n", "\"\"", "\"\"\n", "\"x", "x", "x\n", "xy\"", "\x80", "\xbf", "\xbf\n", "\xbfx", "\xbf\"", "\xbe", "\xff",
	"\xbb", "\xbb\xbf", "\xbb\xbfx\n", "\xbb\xbf\"", "\xbb\xbe", "\xbbx", mark, "\xac", "\x82\xac", "\x82\xac\"\n", "\nx,y,z\nx,y,z\n", ",,\n\"", "\n\n\xff",
}

// P12.1: the records by now are in any text that begins so, and no other one is; so is the fault.
func TestAnyTextThatBeginsSo(t *testing.T) {
	eachEnd(t, func(t *testing.T, end int) {
		check := func(l api.Limits, s string) {
			now := newDesk(t, newTeller(comma(end), l))
			now.feed(s)
			var all [][]string
			for _, record := range now.r.Rows() {
				all = append(all, record)
			}
			inEach, fault := len(all)+1, now.now.fault
			alike := true
			for _, going := range goings {
				is := parsed(comma(end), l, s+going)
				if len(is.records) < len(all) || !same(is.records[:len(all)], all) {
					t.Fatalf("%v, %v: %q has %q, but %q has %q", end, l, s, all, s+going, is.records)
				}
				inEach = min(inEach, len(is.records))
				if fault.Kind != api.OK && is.fault != fault {
					t.Fatalf("%v, %v: %q has %v, but %q has %v", end, l, s, fault, s+going, is.fault)
				}
				alike = alike && is.fault == parsed(comma(end), l, s).fault
			}
			if inEach != len(all) || alike != (fault.Kind != api.OK) {
				t.Fatalf("%v, %v: %q has %q, %v: any text that begins so has %d records, and one fault: %v", end, l, s, all, fault, inEach, alike)
			}
		}
		for _, parts := range [][]string{letters("a,\"\r\n"), letters(mark + "a\n"), letters("\xe2\x82\xac\"\n"), {mark, mark[:1], mark[:2], "a", "\n"}} {
			eachText(parts, 4, func(s string) {
				check(roomy, s)
				check(uniform(roomy), s)
				eachNarrow(2, 2, 2, func(l api.Limits) { check(l, s) })
			})
		}
	})
}

// P12.1, P12.2: all short texts of the bytes that matter to a dialect, cut in every way, under each End.
func TestShortTexts(t *testing.T) {
	eachEnd(t, func(t *testing.T, end int) {
		eachText(letters("a,\"\r\n"), 5, func(s string) { eachCut(t, comma(end), roomy, s) })
		eachText(letters("a,\"\n"), 6, func(s string) { someCuts(t, comma(end), uniform(roomy), s) })
	})
}

// P12.1, P12.2: all short texts of such bytes in each dialect.
func TestShortTextsOfEachDialect(t *testing.T) {
	t.Parallel()
	eachDialect(func(d api.Dialect) {
		eachText(letters("x\r\n"+string([]byte{d.Delim, d.Quote})), 4, func(s string) { eachCut(t, d, uniform(roomy), s) })
	})
}

// P12.1, P12.2: every byte there is, in each state of each dialect, and behind it nothing or another one.
func TestEveryByte(t *testing.T) {
	t.Parallel()
	eachDialect(func(d api.Dialect) {
		delim, quote := string([]byte{d.Delim}), string([]byte{d.Quote})
		for _, ahead := range []string{"", "x" + delim, "x", quote, quote + quote, "x\r", "\r", mark, mark[:1], mark[:2], "\xe2\x82"} {
			for b := range 256 {
				s := ahead + string([]byte{byte(b)})
				eachCut(t, d, roomy, s)
				someCuts(t, d, uniform(within), s+"\n")
			}
		}
	})
}

// P12.1, P12.2: all short texts with bytes of sequences, whole and cut.
func TestShortTextsOfSequences(t *testing.T) {
	eachEnd(t, func(t *testing.T, end int) {
		eachText(letters("\xe2\x82\xac,\"\n"), 5, func(s string) { eachCut(t, comma(end), roomy, s) })
	})
}

// P12.1, P12.2: all short texts behind the mark, and behind two, and of the mark's bytes; within limits that the mark's bytes would go beyond, too.
func TestShortTextsWithTheMark(t *testing.T) {
	eachEnd(t, func(t *testing.T, end int) {
		eachText(letters("a,\"\n"), 3, func(s string) {
			for _, ahead := range []string{mark, mark + mark, mark[:2], mark[:1], "\n" + mark} {
				eachCut(t, comma(end), roomy, ahead+s)
			}
		})
		eachText(letters(mark+",\""), 5, func(s string) { eachCut(t, comma(end), roomy, s) })
		eachText(letters(mark+"a\n"), 4, func(s string) {
			eachNarrow(3, 1, 2, func(l api.Limits) { eachCut(t, comma(end), l, s) })
		})
	})
}

// P12.1, P12.2: all short texts within narrow limits, with and without the mark.
func TestShortTextsWithinNarrowLimits(t *testing.T) {
	eachEnd(t, func(t *testing.T, end int) {
		eachText(letters("a,\"\r\n"), 4, func(s string) {
			eachNarrow(2, 2, 2, func(l api.Limits) { eachCut(t, comma(end), l, s) })
			someCuts(t, comma(end), uniform(within), mark+s)
		})
		eachText(letters("a,\n"), 6, func(s string) {
			someCuts(t, comma(end), api.Limits{Field: 3, Fields: 3, Records: 2, Uniform: true}, s)
		})
	})
}

// P12.1, P12.2: each beginning of a text, and the text with each byte changed, so that each sort of fault is at each place.
func TestEachPlace(t *testing.T) {
	const s = mark + "id,\"a \"\"quill\"\"\"\r\n\r\n7,\"€,\r\n\"\r\n,\r\n\"\",é\r\n8,"
	eachEnd(t, func(t *testing.T, end int) {
		for i := range len(s) {
			someCuts(t, comma(end), uniform(roomy), s[:i])
			for _, b := range []byte("x,\"\r\n\x80\xc3\xff") {
				changed := s[:i] + string([]byte{b}) + s[i+1:]
				someCuts(t, comma(end), uniform(roomy), changed)
				someCuts(t, comma(end), api.Limits{Field: 9, Fields: 2, Records: 4}, changed)
			}
		}
	})
}

// P12.1, P12.2: each limit that a text comes to, just met, just missed and missed by more.
func TestEachLimit(t *testing.T) {
	t.Parallel()
	const s = "ab,\"c\"\"d\"\nef,,g\n\n\"\"\nh,i\nj,k\n"
	for _, ahead := range []string{"", mark} {
		eachNarrow(4, 4, 6, func(l api.Limits) { someCuts(t, comma(api.LF), l, ahead+s) })
	}
}

// faulty are texts with a fault of each kind, or with none: of those that only the end tells nothing is told ahead of Close.
func faulty() []string {
	return []string{"a\nb", "a\nb\n", "", mark, mark[:2], "a\n\xff", "a\nb\"", "a\n\"b\"c", "a\nb\r", "a\n\"b", "a\n\xe2\x82", "a\nabcde", "a\nb,c,d,e", "a\nb\nc", "a\nb,c"}
}

// P12.1, P3: behind a fault nothing that is fed, nor Close, changes anything, but that Close closes; nor does what is fed behind Close, nor Close again.
func TestBehindAFaultAndClosed(t *testing.T) {
	for _, s := range faulty() {
		for _, l := range []api.Limits{roomy, within, uniform(within), smallest} {
			for _, more := range []string{"", "\n", "\"", "x", "\xff", "\xac", mark, "b\nc\nd\n"} {
				k := newDesk(t, newTeller(comma(api.LF), l))
				k.feed(s)
				if k.now.fault.Kind != api.OK {
					k.feedAll([]string{more, "\n", more})
				}
				k.close()
				for range 2 {
					k.feedAll([]string{more, "\n", more})
					k.close()
					k.next()
				}
				k.feed(more)
				k.rest()
				k.feed(more)
				k.close()
				k.rest()
			}
		}
	}
}

// P12.1: the same written out: the fault that only Close tells stays, too.
func TestStaysWrittenOut(t *testing.T) {
	for _, c := range []struct {
		s              string
		fed, closed    api.Fault
		count, atClose int
	}{
		{"a\nb", api.Fault{}, api.Fault{}, 1, 2},
		{"a\nb\"", api.Fault{Kind: api.ErrQuote, At: 3}, api.Fault{Kind: api.ErrQuote, At: 3}, 1, 1},
		{"a\n\"b", api.Fault{}, api.Fault{Kind: api.ErrOpen, At: 4}, 1, 1},
	} {
		r, _ := read.New(comma(api.LF), roomy)
		if f := r.Feed([]byte(c.s)); f != c.fed || r.Count() != c.count || r.Closed() {
			t.Errorf("%q: %v, %d, %v", c.s, f, r.Count(), r.Closed())
		}
		offset := len(c.s)
		if c.closed.Kind != api.OK {
			offset = c.closed.At
		}
		for range 3 {
			if f := r.Close(); f != c.closed || r.Fault() != c.closed || !r.Closed() || r.Count() != c.atClose || r.Offset() != offset {
				t.Errorf("%q: Close: %v, %v, %v, %d, %d", c.s, f, r.Fault(), r.Closed(), r.Count(), r.Offset())
			}
			if f := r.Feed([]byte("\"\nx\n")); f != c.closed || r.Fault() != c.closed || !r.Closed() || r.Count() != c.atClose || r.Offset() != offset {
				t.Errorf("%q: Feed: %v, %v, %v, %d, %d", c.s, f, r.Fault(), r.Closed(), r.Count(), r.Offset())
			}
		}
	}
}

// P12.1: Next, with Feed between, behind a fault, and behind Close.
func TestNext(t *testing.T) {
	for _, end := range []string{"", "\"", "\"e", "\xff", "\xe2", "e,f,g", "e\nf"} {
		for n := range 5 {
			k := newDesk(t, newTeller(comma(api.LF), roomy))
			k.next()
			for _, piece := range []string{"a\nb\nc", "", ",d\n", "\"\"\n\n", "x\"\"\n", "y\nz"} {
				k.feed(piece)
				for range n {
					k.next()
				}
			}
			k.feed(end)
			for range n {
				k.next()
			}
			k.close()
			for k.next() {
			}
			k.rest()
		}
	}
}

// P12.1: Next written out.
func TestNextWrittenOut(t *testing.T) {
	r, _ := read.New(comma(api.LF), roomy)
	want := func(want ...string) {
		t.Helper()
		if record, ok := r.Next(); !slices.Equal(record, want) || ok != (want != nil) {
			t.Errorf("%q, %v; want %q", record, ok, want)
		}
	}
	want()
	r.Feed([]byte("a\n\nb,c\nd"))
	want("a")
	r.Feed([]byte("e\nf\n"))
	want("b", "c")
	want("de")
	want("f")
	want()
	r.Feed([]byte("\"\"\ng\nh\"i\n"))
	want("")
	r.Feed([]byte("j\n"))
	r.Close()
	want("g")
	want()
	want()
	if r.Count() != 6 {
		t.Error(r.Count())
	}
}

// P12.1: Rows as far as it goes, and as far as is asked: what isn't asked for waits. Next between doesn't hold up the numbers.
func TestRows(t *testing.T) {
	for most := range 7 {
		for n := range 4 {
			for _, end := range []string{"", "\"", "\xff", "\"x", "xyz"} {
				k := newDesk(t, newTeller(comma(api.LF), roomy))
				k.rows(most)
				k.feed("a\nb,c\n\n\"\"\nd")
				k.rows(most)
				for range n {
					k.next()
				}
				k.feed("\ne\nf\ng\nh" + end)
				k.rows(most)
				k.next()
				k.rows(most)
				k.close()
				k.rows(most)
				for range n {
					k.next()
				}
				k.rest()
			}
		}
	}
}

// P12.1: numbers written out: those that were handed out before are counted, however they were.
func TestRowsWrittenOut(t *testing.T) {
	r, _ := read.New(comma(api.LF), roomy)
	r.Feed([]byte("a\nb\nc\nd\ne\nf"))
	var got []string
	note := func(most int) {
		for n, record := range r.Rows() {
			got = append(got, strconv.Itoa(n)+record[0])
			if most--; most == 0 {
				break
			}
		}
	}
	r.Next()
	note(2)
	r.Next()
	note(9)
	note(9)
	r.Feed([]byte("\ng"))
	note(9)
	r.Close()
	note(9)
	if want := []string{"1b", "2c", "4e", "5f", "6g"}; !slices.Equal(got, want) {
		t.Errorf("%q; want %q", got, want)
	}
}

// P12.1: Rows takes no record ahead of being asked, and none that isn't asked for.
func TestRowsAsAsked(t *testing.T) {
	k := newDesk(t, newTeller(comma(api.LF), roomy))
	k.feed("a\nb\nc\nd\n")
	all := k.r.Rows()
	k.check()
	if k.handed = 0; !k.next() {
		t.Fatal("Rows took a record, though nobody ranges over it")
	}
	next, stop := iter.Pull2(all)
	number, record, ok := next()
	if number != 1 || !ok {
		t.Fatalf("%d, %q, %v", number, record, ok)
	}
	k.want(record)
	stop()
	if number, record, ok := next(); ok {
		t.Fatalf("%d, %q behind stop", number, record)
	}
	n := 0
	all(func(number int, record []string) bool {
		if n++; n > 1 {
			t.Fatalf("%d, %q, though no more was asked for", number, record)
		}
		k.want(record)
		return false
	})
	if k.handed != 3 || !k.next() {
		t.Fatal(k.handed)
	}
	k.rest()
}

// P12.1: records that come while Rows is gone through are handed out, too; so are those of Close; a fault meanwhile bars none of those ahead of it.
func TestRowsWhileFed(t *testing.T) {
	for end, want := range map[string]int{"": 5, "x": 6, "x\"": 5, "\"": 5, "\xff": 5, "y\nz\xe2": 6} {
		k := newDesk(t, newTeller(comma(api.LF), roomy))
		k.feed("0\n")
		n := 0
		for number, record := range k.r.Rows() {
			if number != k.handed {
				t.Fatalf("number %d; want %d", number, k.handed)
			}
			k.want(record)
			switch n++; n {
			case 1:
				k.feed("1\n2,3")
			case 2:
				k.feed("\n\n4\n5\n6\n")
			case 3:
				k.next()
			case 4:
				k.rows(1)
				k.feed("7\n" + end)
			case 5:
				k.close()
			}
		}
		if n != want {
			t.Fatalf("%q: %d records; want %d", end, n, want)
		}
		k.rest()
	}
}

// P12.1: a record that comes when none was left, in the last one's turn, is handed out, too.
func TestRowsWhileEmpty(t *testing.T) {
	r, _ := read.New(comma(api.LF), roomy)
	r.Feed([]byte("0\n"))
	want := 0
	for n, record := range r.Rows() {
		if n != want || !slices.Equal(record, []string{strconv.Itoa(n)}) || r.Count() != n+1 {
			t.Fatalf("%d, %q, Count %d; want %d", n, record, r.Count(), want)
		}
		if want++; want < 1000 {
			r.Feed([]byte(strconv.Itoa(want) + "\n"))
		}
	}
	if want != 1000 {
		t.Errorf("%d records", want)
	}
}

// P12.1: what Rows answered may be ranged over again: it goes on with what there is then; several by turns, and one within another, each hand out what is first then.
func TestRowsAgain(t *testing.T) {
	k := newDesk(t, newTeller(comma(api.LF), roomy))
	all := k.r.Rows()
	for range all {
		t.Fatal("a record of nothing")
	}
	for range 4 {
		k.feed("a\nb\nc\nd,e\n")
		for number, record := range all {
			if number != k.handed {
				t.Fatal(number)
			}
			k.want(record)
			if number%4 == 1 {
				break
			}
		}
		for _, record := range all {
			k.want(record)
			for _, record := range k.r.Rows() {
				k.want(record)
				break
			}
		}
	}
	k.feed("a\nb\nc\nd\ne")
	one, stopOne := iter.Pull2(all)
	defer stopOne()
	two, stopTwo := iter.Pull2(k.r.Rows())
	defer stopTwo()
	for k.handed < len(k.now.records) {
		for _, next := range []func() (int, []string, bool){one, two} {
			number, record, ok := next()
			if number != k.handed || !ok {
				t.Fatalf("%d, %q, %v; want %d", number, record, ok, k.handed)
			}
			k.want(record)
		}
	}
	for _, next := range []func() (int, []string, bool){one, two} {
		if number, record, ok := next(); number != 0 || len(record) != 0 || ok {
			t.Errorf("%d, %q, %v", number, record, ok)
		}
	}
	k.close()
	k.rest()
}

// P12.1: whoever panics while asking gets that panic, and what wasn't handed out waits.
func TestWhoeverPanics(t *testing.T) {
	r, _ := read.New(comma(api.LF), roomy)
	r.Feed([]byte("a\nb\n"))
	func() {
		defer func() {
			if got := recover(); got != "enough" {
				t.Errorf("recovered %v", got)
			}
		}()
		for range r.Rows() {
			panic("enough")
		}
	}()
	for n, record := range r.Rows() {
		if n != 1 || !slices.Equal(record, []string{"b"}) {
			t.Errorf("%d, %q", n, record)
		}
	}
}

// P12.1: records that are handed out are the caller's own, and keep what they were: whatever is done to one, to a piece, or to the reader.
func TestRecordsAreOwn(t *testing.T) {
	r, _ := read.New(comma(api.LF), roomy)
	var got, want [][]string
	keep := func(record []string) {
		got = append(got, record)
		copied := make([]string, len(record))
		for i, f := range record {
			copied[i] = strings.Clone(f)
		}
		want = append(want, copied)
	}
	piece := make([]byte, 0, 100)
	for i := range 200 {
		piece = append(piece[:0], "a,\"b\"\"c\","+strconv.Itoa(i)+"\n"+strings.Repeat(",", i%7)+"x\ny,"...)
		r.Feed(piece)
		clear(piece)
		if record, ok := r.Next(); ok && i%3 == 0 {
			keep(record)
		}
		for _, record := range r.Rows() {
			if keep(record); i%2 == 0 {
				break
			}
		}
	}
	r.Close()
	for _, record := range r.Rows() {
		keep(record)
	}
	for i := range got {
		if !slices.Equal(got[i], want[i]) {
			t.Fatalf("record %d was %q, and is %q", i, want[i], got[i])
		}
	}
	for i := range got {
		_ = append(got[i], "changed")
		spoil(got[i])
		for j := i + 1; j < len(got); j++ {
			if !slices.Equal(got[j], want[j]) {
				t.Fatalf("record %d was %q, and is %q, as record %d was written into", j, want[j], got[j], i)
			}
		}
	}
}

// P12.1: a piece that the caller writes into behind Feed changes nothing, wherever in a text it was cut.
func TestPiecesAreNotKept(t *testing.T) {
	const s = mark + "abc,\"d\"\"€\"\r\n\r\nf,g"
	for _, size := range []int{1, 2, 3, 5, 7, 100} {
		r, _ := read.New(comma(api.CRLF), roomy)
		room := make([]byte, size)
		for _, piece := range cuts.By(s, size) {
			n := copy(room, piece)
			r.Feed(room[:n])
			copy(room, bytes.Repeat([]byte("\""), size))
		}
		fault := r.Close()
		var got [][]string
		for _, record := range r.Rows() {
			got = append(got, record)
		}
		if fault != (api.Fault{}) || !same(got, [][]string{{"abc", `d"€`}, {"f", "g"}}) {
			t.Errorf("by %d: %q, %v", size, got, fault)
		}
	}
}

// P12.1: two readers, of one dialect or of two, don't touch each other.
func TestTwoReaders(t *testing.T) {
	for _, d := range []api.Dialect{comma(api.LF), comma(api.Either), {Delim: ';', Quote: 'x', End: api.CRLF}} {
		for _, l := range []api.Limits{roomy, uniform(within)} {
			a, b := newDesk(t, newTeller(comma(api.LF), roomy)), newDesk(t, newTeller(d, l))
			for i, piece := range cuts.By(mark+"a,\"b\"\"\n\"\n\n€,\nxx;\"\"\nc,d\n", 2, 1, 4) {
				a.feed(piece)
				b.check()
				b.feed(piece + "\n")
				a.check()
				if i%2 == 0 {
					a.next()
					b.check()
				} else {
					b.rows(1)
					a.check()
				}
			}
			b.close()
			a.check()
			a.feed("z\n")
			b.feed("z\n")
			b.rest()
			a.check()
			a.close()
			a.rest()
			b.check()
		}
	}
}

// steps are the calls of which short ways are gone through, all of them.
var steps = []func(*desk){
	func(k *desk) { k.feed("a,\"") },
	func(k *desk) { k.feed("\"") },
	func(k *desk) { k.feed("\n") },
	func(k *desk) { k.feed("\xbb\xbfb") },
	func(k *desk) { k.feed("\xef") },
	func(k *desk) { k.feed("b\r\nc\n") },
	func(k *desk) { k.feed("") },
	func(k *desk) { k.next() },
	func(k *desk) { k.rows(1) },
	func(k *desk) { k.rows(math.MaxInt) },
	func(k *desk) { k.close() },
}

// P1, P12.1: every short way of calls.
func TestEveryWay(t *testing.T) {
	eachEnd(t, func(t *testing.T, end int) {
		for _, l := range []api.Limits{uniform(roomy), {Field: 2, Fields: 2, Records: 1}} {
			teller := newTeller(comma(end), l)
			var add func(way []func(*desk))
			add = func(way []func(*desk)) {
				k := newDesk(t, teller)
				for _, step := range way {
					step(k)
				}
				k.rest()
				if len(way) == 5 {
					return
				}
				for _, step := range steps {
					add(append(way[:len(way):len(way)], step))
				}
			}
			add(nil)
		}
	})
}

// randomText is one of bytes that matter to a dialect, of which most go on.
func randomText(random *rand.Rand, d api.Dialect, most int) string {
	delim, quote := string([]byte{d.Delim}), string([]byte{d.Quote})
	parts := []string{"x", "yz", delim, delim, quote + quote, quote + "x" + delim + quote, "\n", "\r\n", "é", "€", mark, quote, "\r", "\x80", mark[:2]}
	var b strings.Builder
	if random.Intn(3) == 0 {
		b.WriteString(mark[:1+random.Intn(3)])
	}
	for range random.Intn(most) {
		n := len(parts)
		if random.Intn(8) > 0 {
			n -= 4
		}
		b.WriteString(parts[random.Intn(n)])
	}
	return b.String()
}

// randomPieces are a text's pieces, of sizes by chance.
func randomPieces(random *rand.Rand, s string, most int) []string {
	sizes := make([]int, 1+random.Intn(9))
	for i := range sizes {
		sizes[i] = random.Intn(most + 1)
	}
	return cuts.By(s, sizes...)
}

// P12.1, P12.2: longer texts, as chance has it (always the same), in pieces of any sizes, within limits of every width.
func TestLongerTexts(t *testing.T) {
	t.Parallel()
	random := rand.New(rand.NewSource(12))
	eachDialect(func(d api.Dialect) {
		for range 60 {
			s := randomText(random, d, 40)
			for _, l := range []api.Limits{roomy, {Field: 1 + random.Intn(12), Fields: 1 + random.Intn(9), Records: 1 + random.Intn(9), Uniform: random.Intn(2) == 0}} {
				k := newTeller(d, l)
				for range 4 {
					through(t, k, randomPieces(random, s, 1+random.Intn(9)), random.Intn(2) == 0)
				}
			}
		}
	})
}

// P12.2, P2, P3: two ways to cut one text come to the same: records, fault, place, Offset; and to what Parse tells of it at once.
func TestTwoWays(t *testing.T) {
	t.Parallel()
	random := rand.New(rand.NewSource(122))
	readIn := func(d api.Dialect, l api.Limits, all []string) (state, int) {
		r, _ := read.New(d, l)
		var records [][]string
		for _, piece := range all {
			r.Feed([]byte(piece))
			if record, ok := r.Next(); ok {
				records = append(records, record)
			}
		}
		fault := r.Close()
		for _, record := range r.Rows() {
			records = append(records, record)
		}
		return state{records, fault}, r.Offset()
	}
	eachDialect(func(d api.Dialect) {
		for range 300 {
			s := randomText(random, d, 120)
			l := api.Limits{Field: 1 + random.Intn(30), Fields: 1 + random.Intn(20), Records: 1 + random.Intn(50), Uniform: random.Intn(4) == 0}
			one, two := randomPieces(random, s, 5), randomPieces(random, s, 40)
			a, offsetA := readIn(d, l, one)
			b, offsetB := readIn(d, l, two)
			if !same(a.records, b.records) || a.fault != b.fault || offsetA != offsetB {
				t.Fatalf("%v, %v: %q is %v, but %q is %v", d, l, one, a, two, b)
			}
			if all := parsed(d, l, s); !same(a.records, all.records) || a.fault != all.fault {
				t.Fatalf("%v, %v: %q is %v, but at once %v", d, l, one, a, all)
			}
		}
	})
}

// writtenIsRead reads what layer 11 writes of a table: put, taken and fed by turns, in pieces of these sizes.
func writtenIsRead(t *testing.T, d api.Dialect, table [][]string, takes, feeds []int) {
	t.Helper()
	w, e := pieces.New(d)
	if e != api.OK {
		t.Fatal(e)
	}
	r, e := read.New(d, widest)
	if e != api.OK {
		t.Fatal(e)
	}
	var got [][]string
	fed := 0
	feed := func(taken []byte) {
		for _, piece := range cuts.By(string(taken), feeds...) {
			if f := r.Feed([]byte(piece)); f != (api.Fault{}) {
				t.Fatalf("%v: %q: %v", d, table, f)
			}
			fed += len(piece)
		}
	}
	for i, record := range table {
		if e := w.Put(record); e != api.OK {
			t.Fatalf("%v: Put(%q) = %d", d, record, e)
		}
		feed(w.Take(takes[i%len(takes)]))
		if record, ok := r.Next(); ok {
			got = append(got, record)
		}
	}
	w.Close()
	for piece := range w.Drain(takes[0]) {
		feed(piece)
	}
	// Each line has its end: so all records are there ahead of Close.
	if r.Count() != len(table) || r.Offset() != w.Total() || fed != w.Total() {
		t.Fatalf("%v: %q: %d records of %d bytes", d, table, r.Count(), r.Offset())
	}
	if f := r.Close(); f != (api.Fault{}) {
		t.Fatalf("%v: %q: %v", d, table, f)
	}
	for n, record := range r.Rows() {
		if n != len(got) {
			t.Fatalf("number %d; want %d", n, len(got))
		}
		got = append(got, record)
	}
	if !same(got, table) {
		t.Fatalf("%v: %q is read as %q", d, table, got)
	}
}

// awkward is a table of fields that need quotes, or just don't, in a dialect.
func awkward(d api.Dialect) [][]string {
	delim, quote := string([]byte{d.Delim}), string([]byte{d.Quote})
	return [][]string{{mark, ""}, {""}, {mark}, {"x" + delim, quote + "é"}, {"", ""}, {"\r\n", "\r", "\n"}, {quote + quote, delim, "€" + mark}, {""}, {",\";' \t\x00"}}
}

// P4: what layer 11 writes, taken in pieces of any sizes and fed in pieces of any sizes, is read as the table.
func TestWhatIsWrittenIsRead(t *testing.T) {
	eachDialect(func(d api.Dialect) {
		for _, takes := range [][]int{{1}, {2}, {3, 1}, {0, 7}, {4, 5, 6}, {1000}} {
			for _, feeds := range [][]int{{1}, {2}, {3}, {1, 0, 4}, {0}} {
				writtenIsRead(t, d, awkward(d), takes, feeds)
				writtenIsRead(t, d, awkward(d)[1:], takes, feeds)
				writtenIsRead(t, d, nil, takes, feeds)
			}
		}
	})
}

// P4: in every right dialect.
func TestWhatIsWrittenInEveryDialect(t *testing.T) {
	eachEnd(t, func(t *testing.T, end int) {
		for delim := range 0x80 {
			for quote := range 0x80 {
				d := api.Dialect{Delim: byte(delim), Quote: byte(quote), End: end}
				if isRight(d) {
					writtenIsRead(t, d, awkward(d), []int{3, 11}, []int{1, 2, 5})
				}
			}
		}
	})
}

// P4: tables as chance has it.
func TestWhatIsWrittenByChance(t *testing.T) {
	t.Parallel()
	random := rand.New(rand.NewSource(4))
	eachDialect(func(d api.Dialect) {
		parts := []string{"x", "é", "😀", mark, "\r", "\n", "\x00", string([]byte{d.Delim}), string([]byte{d.Quote})}
		for range 100 {
			table := make([][]string, random.Intn(12))
			for i := range table {
				table[i] = make([]string, 1+random.Intn(4))
				for j := range table[i] {
					for range random.Intn(5) {
						table[i][j] += parts[random.Intn(len(parts))]
					}
				}
			}
			sizes := func() []int { return []int{random.Intn(30), random.Intn(6), 1 + random.Intn(3)} }
			writtenIsRead(t, d, table, sizes(), sizes())
			if text, _, e := write.Table(d, table); e == api.OK && len(text) < 80 {
				someCuts(t, d, widest, text)
			}
		}
	})
}

// P1: long texts come to their end, at once and byte by byte: one field, one record, many records, many empty lines; with a fault at the end.
func TestLongTexts(t *testing.T) {
	const n = 1 << 18
	exact := api.Limits{Field: n, Fields: n, Records: n}
	for _, c := range []struct {
		s       string
		l       api.Limits
		records int
		fault   api.Fault
	}{
		{strings.Repeat("a", n), exact, 1, api.Fault{}},
		{strings.Repeat("a", n+1), exact, 0, api.Fault{Kind: api.ErrField, At: n}},
		{"\"" + strings.Repeat("\"\"", n) + "\"", exact, 1, api.Fault{}},
		{"\"" + strings.Repeat("\"\"", n), widest, 0, api.Fault{Kind: api.ErrOpen, At: 2*n + 1}},
		{strings.Repeat(",", n-1), exact, 1, api.Fault{}},
		{strings.Repeat(",", n), exact, 0, api.Fault{Kind: api.ErrFields, At: n - 1}},
		{strings.Repeat("a\n", n), exact, n, api.Fault{}},
		{strings.Repeat("a\n", n) + "b", exact, n, api.Fault{Kind: api.ErrRecords, At: 2 * n}},
		{strings.Repeat("\r\n", n), exact, 0, api.Fault{}},
		{strings.Repeat("\r\n", n) + "\r", exact, 0, api.Fault{Kind: api.ErrEnd, At: 2*n + 1}},
		{mark + strings.Repeat("a\r\n", n) + "a\x80", widest, n, api.Fault{Kind: api.ErrUtf8, At: 3*n + 4}},
	} {
		for _, size := range []int{1, 2, 3, 4096, len(c.s)} {
			r, _ := read.New(comma(api.Either), c.l)
			for _, piece := range cuts.By(c.s, size) {
				r.Feed([]byte(piece))
			}
			fault := r.Close()
			got := 0
			for i := range r.Rows() {
				if i != got {
					t.Fatal(i)
				}
				got++
			}
			if got != c.records || r.Count() != c.records || fault != c.fault {
				t.Errorf("%.10q .. by %d: %d records, %v; want %d, %v", c.s, size, got, fault, c.records, c.fault)
			}
		}
	}
}

// P1: a reader in which many records wait always, of which one comes and one is handed out at a time.
func TestMuchWaits(t *testing.T) {
	const n = 1 << 18
	r, _ := read.New(comma(api.LF), widest)
	r.Feed([]byte(strings.Repeat("a\n", n)))
	for i := range 2 * n {
		r.Feed([]byte("b\n"))
		record, ok := r.Next()
		if want := map[bool]string{true: "a", false: "b"}[i < n]; !ok || record[0] != want || r.Count() != n+i+1 {
			t.Fatalf("%d: %q, %v, Count %d", i, record, ok, r.Count())
		}
	}
}

// held is how many bytes of memory are held.
func held() int {
	runtime.GC()
	var stats runtime.MemStats
	runtime.ReadMemStats(&stats)
	return int(stats.HeapAlloc)
}

// P12.1: what was handed out isn't held any more, nor is what was fed: a long text takes no more room than what waits of it.
func TestGoneIsNotHeld(t *testing.T) {
	const n, times = 1 << 20, 20
	line := strings.Repeat("x", n) + "\n\n"
	r, _ := read.New(comma(api.LF), widest)
	empty := held()
	for range times {
		r.Feed([]byte(line))
		for range r.Rows() {
		}
	}
	if now := held(); now > empty+8*n {
		t.Errorf("%d bytes were held ahead of %d, and %d behind them", empty, times*n, now)
	}
	for range times {
		r.Feed([]byte(line))
	}
	full := held()
	for i := range times - 1 {
		r.Next()
		if now := held(); now > full-i*n {
			t.Errorf("%d bytes were held when %d records waited, and %d when %d do", full, times, now, times-1-i)
		}
	}
	if record, ok := r.Next(); !ok || len(record[0]) != n || r.Count() != 2*times {
		t.Error(ok, r.Count())
	}
}

// P12.1: nor is a record that was never whole, behind a fault and behind Close.
func TestNeverWholeIsNotHeld(t *testing.T) {
	const n = 1 << 23
	for _, c := range []struct {
		end   string
		fault api.Fault
	}{
		{"\"", api.Fault{Kind: api.ErrQuote, At: n + 2}},
		{"\xe2", api.Fault{Kind: api.ErrCut, At: n + 3}},
		{",\"", api.Fault{Kind: api.ErrOpen, At: n + 4}},
	} {
		r, _ := read.New(comma(api.LF), widest)
		empty := held()
		r.Feed([]byte(strings.Repeat("x", n/2) + ",," + strings.Repeat("x", n/2)))
		r.Feed([]byte(c.end))
		if c.fault.Kind != api.ErrQuote {
			r.Close()
		}
		if now := held(); now > empty+n/4 {
			t.Errorf("%q: %d bytes were held ahead, and %d behind", c.end, empty, now)
		}
		if r.Fault() != c.fault {
			t.Errorf("%q: %v", c.end, r.Fault())
		}
	}
}

// P12.1: nor is the room for many records that waited, where one waits still.
func TestRoomIsNotHeld(t *testing.T) {
	const n = 1 << 20
	r, _ := read.New(comma(api.LF), widest)
	empty := held()
	r.Feed([]byte(strings.Repeat("a\n", n)))
	for range n - 1 {
		r.Next()
	}
	if now := held(); now > empty+n {
		t.Errorf("%d bytes were held ahead, and %d when one record of %d waits", empty, now, n)
	}
	if record, ok := r.Next(); !ok || record[0] != "a" {
		t.Error(record)
	}
}

func FuzzReader(f *testing.F) {
	f.Add(byte(','), byte('"'), byte(0), 9, 9, 9, true, "a,\"b\"\"c\"\n\nd", "e\n", uint8(3))
	f.Add(byte(';'), byte('\''), byte(1), 2, 3, 4, false, mark+"a;'b'\r\n\r\n", "\xe2", uint8(1))
	f.Add(byte('\t'), byte(0), byte(2), 1, 1, 1, true, "\xef\xbb", "\xbf\x00\r\x00", uint8(2))
	f.Fuzz(func(t *testing.T, delim, quote, end byte, field, fields, records int, uniform bool, a, b string, size uint8) {
		d := api.Dialect{Delim: delim, Quote: quote, End: int(end%3) + 1}
		if !isRight(d) || len(a)+len(b) > 300 {
			return
		}
		narrow := func(n int) int { return 1 + (n%50+50)%50 }
		k := newTeller(d, api.Limits{Field: narrow(field), Fields: narrow(fields), Records: narrow(records), Uniform: uniform})
		through(t, k, []string{a, b}, true)
		through(t, k, cuts.By(a+b, int(size)), false)
		through(t, k, letters(a+b), true)
	})
}
