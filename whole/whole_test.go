package whole_test

import (
	"iter"
	"math"
	"math/rand"
	"slices"
	"strings"
	"testing"
	"unicode/utf8"

	"quillpen/api"
	"quillpen/whole"
)

const mark = "\xef\xbb\xbf"

var ends = []int{api.LF, api.CRLF, api.Either}

// dialects are right ones, but for their End: usual ones, bytes that no text has, letters, and ones beside the ends of line.
var dialects = []api.Dialect{
	{Delim: ',', Quote: '"'},
	{Delim: ';', Quote: '\''},
	{Delim: '\t', Quote: 0},
	{Delim: 0, Quote: 0x7f},
	{Delim: 'a', Quote: 'b'},
	{Delim: '"', Quote: ','},
	{Delim: 0x0b, Quote: 0x0c},
	{Delim: 0x09, Quote: 0x0e},
}

// eachDialect hands out each of them with each end.
func eachDialect(f func(api.Dialect)) {
	for _, d := range dialects {
		for _, end := range ends {
			d.End = end
			f(d)
		}
	}
}

func comma(end int) api.Dialect { return api.Dialect{Delim: ',', Quote: '"', End: end} }

var (
	widest = api.Limits{Field: api.MaxLimit, Fields: api.MaxLimit, Records: api.MaxLimit}
	roomy  = api.Limits{Field: 1000, Fields: 1000, Records: 1000}
)

func uniform(l api.Limits) api.Limits {
	l.Uniform = true
	return l
}

// The chapter's words 'records of a text', told by lines, records and fields that are cut
// from a text's front, without states.

// cutEnd is what stands behind an end of line.
func cutEnd(end int, s string) (string, bool) {
	if end != api.LF && strings.HasPrefix(s, "\r\n") {
		return s[2:], true
	}
	if end != api.CRLF && strings.HasPrefix(s, "\n") {
		return s[1:], true
	}
	return s, false
}

// cutField is a field, and what stands behind it.
func cutField(d api.Dialect, s string) (field, rest string, ok bool) {
	if s == "" || s[0] != d.Quote {
		n := strings.IndexAny(s, string([]byte{d.Delim, d.Quote, '\r', '\n'}))
		if n < 0 {
			n = len(s)
		}
		return s[:n], s[n:], true
	}
	for s = s[1:]; ; {
		n := strings.IndexByte(s, d.Quote)
		if n < 0 {
			return "", "", false
		}
		if n+1 == len(s) || s[n+1] != d.Quote {
			return field + s[:n], s[n+1:], true
		}
		field, s = field+s[:n+1], s[n+2:]
	}
}

// cutRecord is a record, and what stands behind it.
func cutRecord(d api.Dialect, s string) (record []string, rest string, ok bool) {
	for {
		field, rest, ok := cutField(d, s)
		if !ok {
			return nil, "", false
		}
		record = append(record, field)
		if rest == "" || rest[0] != d.Delim {
			return record, rest, true
		}
		s = rest[1:]
	}
}

// lines are a text's records, and whether the last one lacks its end of line; false, if it is no text of the dialect.
func lines(d api.Dialect, s string) (records [][]string, open, ok bool) {
	for s != "" {
		if rest, empty := cutEnd(d.End, s); empty {
			s = rest
			continue
		}
		record, rest, ok := cutRecord(d, s)
		if !ok {
			return nil, false, false
		}
		records = append(records, record)
		if rest == "" {
			return records, true, true
		}
		if s, ok = cutEnd(d.End, rest); !ok {
			return nil, false, false
		}
	}
	return records, false, true
}

// soFar is what a beginning of a text comes to: its records (the last one may not be
// whole yet), how many are whole, and what must come if it is no text by itself.
type soFar struct {
	records [][]string
	whole   int
	missing string
	ok      bool
}

// begins is what a beginning of a text comes to: not ok, if no text of the dialect begins so.
// As each beginning is ended by one of three bytes, or none, nothing else need be tried.
func begins(d api.Dialect, s string) soFar {
	if records, open, ok := lines(d, s); ok {
		b := soFar{records, len(records), "", true}
		if open {
			b.whole--
		}
		return b
	}
	if records, _, ok := lines(d, s+string([]byte{d.Quote})); ok {
		return soFar{records, len(records) - 1, "quote", true}
	}
	if records, _, ok := lines(d, s+"\n"); ok {
		return soFar{records, begins(d, s[:len(s)-1]).whole, "line feed", true}
	}
	return soFar{}
}

// rest is what stands behind the characters that a text begins with.
func rest(s string) string {
	for s != "" {
		if r, n := utf8.DecodeRuneInString(s); r == utf8.RuneError && n == 1 {
			break
		} else {
			s = s[n:]
		}
	}
	return s
}

// goesOn tells whether a well-formed text begins so.
func goesOn(s string) bool { return !utf8.FullRuneInString(rest(s)) || rest(s) == "" }

func last[T any](l []T) T { return l[len(l)-1] }

// dialectFault is what the byte is with which a text goes wrong whose beginning was right.
func dialectFault(d api.Dialect, before soFar, b byte) api.Errno {
	switch {
	case before.missing == "line feed" || b == '\r' || b == '\n':
		return api.ErrEnd
	case b == d.Quote:
		return api.ErrQuote
	}
	return api.ErrAfter
}

// limitsFault is what a byte is, by what there is without it and with it.
func limitsFault(l api.Limits, before, with soFar) api.Errno {
	if len(with.records) == 0 {
		return api.OK
	}
	field := last(last(with.records))
	ending := before.missing == "" && before.whole < len(before.records) &&
		(with.whole == len(with.records) || with.missing == "line feed")
	switch {
	case len(with.records) > l.Records:
		return api.ErrRecords
	case with.whole < len(with.records) && len(field) > l.Field:
		return api.ErrField
	case len(last(with.records)) > l.Fields:
		return api.ErrFields
	case !l.Uniform || before.whole == 0:
		return api.OK
	case ending && len(last(with.records)) != len(with.records[0]):
		return api.ErrWidth
	case !ending && len(last(with.records)) > len(with.records[0]):
		return api.ErrWidth
	}
	return api.OK
}

// endFault is what the end is, behind a text that was right up to there.
func endFault(l api.Limits, s string, all soFar) api.Errno {
	switch {
	case rest(s) != "":
		return api.ErrCut
	case all.missing == "quote":
		return api.ErrOpen
	case all.missing == "line feed":
		return api.ErrEnd
	case l.Uniform && 0 < all.whole && all.whole < len(all.records) && len(last(all.records)) != len(all.records[0]):
		return api.ErrWidth
	}
	return api.OK
}

// told is what the chapter says of a text: the records that are whole ahead of the first fault, and that.
func told(d api.Dialect, l api.Limits, s string) ([][]string, api.Fault) {
	text := strings.TrimPrefix(s, mark)
	ahead := len(s) - len(text)
	before := begins(d, "")
	for i := range len(text) {
		with := begins(d, text[:i+1])
		e := api.ErrUtf8
		if goesOn(s[:ahead+i+1]) {
			if !with.ok {
				e = dialectFault(d, before, text[i])
			} else {
				e = limitsFault(l, before, with)
			}
		}
		if e != api.OK {
			return before.records[:before.whole], api.Fault{Kind: e, At: ahead + i}
		}
		before = with
	}
	if e := endFault(l, s, before); e != api.OK {
		return before.records[:before.whole], api.Fault{Kind: e, At: len(s)}
	}
	return before.records, api.Fault{}
}

// spoil overwrites all the memory that a list reaches.
func spoil(l []string) {
	l = l[:cap(l)]
	for i := range l {
		l[i] = "spoilt"
	}
}

// spoilAll does so of a list of lists.
func spoilAll(l [][]string) {
	for i := range l {
		spoil(l[i])
	}
	l = l[:cap(l)]
	for i := range l {
		l[i] = []string{"spoilt"}
	}
}

func same(a, b [][]string) bool { return slices.EqualFunc(a, b, slices.Equal[[]string]) }

// ranged are the records that are ranged over. Each is overwritten as soon as it is looked at.
func ranged(records iter.Seq[[]string]) [][]string {
	var all [][]string
	for record := range records {
		all = append(all, slices.Clone(record))
		spoil(record)
	}
	return all
}

// wantText holds all that is told of a text against these records and this fault.
func wantText(t *testing.T, d api.Dialect, l api.Limits, s string, want [][]string, fault api.Fault) {
	t.Helper()
	// What is answered is overwritten each time: the other answers are none the worse for it.
	for range 2 {
		records, f := whole.Parse(d, l, s)
		if !same(records, want) || f != fault {
			t.Fatalf("Parse(%v, %v, %q) = %q, %v; want %q, %v", d, l, s, records, f, want, fault)
		}
		spoilAll(records)
	}
	records := whole.Records(d, l, s)
	for range 2 {
		if all := ranged(records); !same(all, want) {
			t.Fatalf("Records(%v, %v, %q): %q; want %q", d, l, s, all, want)
		}
	}
	if f := whole.First(d, l, s); f != fault {
		t.Fatalf("First(%v, %v, %q) = %v; want %v", d, l, s, f, fault)
	}
}

// checkText holds all that is told of a text against the chapter.
func checkText(t *testing.T, d api.Dialect, l api.Limits, s string) {
	t.Helper()
	want, fault := told(d, l, s)
	wantText(t, d, l, s, want, fault)
}

// checkParses holds Parses of a text against the chapter.
func checkParses(t *testing.T, d api.Dialect, s string) {
	t.Helper()
	_, fault := told(d, widest, s)
	if got := whole.Parses(d, s); got != (fault == api.Fault{}) {
		t.Fatalf("Parses(%v, %q) = %v; the fault is %v", d, s, got, fault)
	}
}

// eachText hands out every text of at most so many of these bytes.
func eachText(bytes string, most int, f func(string)) {
	var add func(s string)
	add = func(s string) {
		f(s)
		if len(s) == most {
			return
		}
		for i := range len(bytes) {
			add(s + bytes[i:i+1])
		}
	}
	add("")
}

// P6.1: all short texts of the bytes that matter to a dialect, under each End.
func TestShortTexts(t *testing.T) {
	for _, end := range ends {
		eachText("a,\"\r\n", 6, func(s string) {
			checkText(t, comma(end), roomy, s)
			checkParses(t, comma(end), s)
		})
	}
}

// P6.1: all short texts of such bytes in each dialect.
func TestShortTextsOfEachDialect(t *testing.T) {
	eachDialect(func(d api.Dialect) {
		eachText("x\r\n"+string([]byte{d.Delim, d.Quote}), 4, func(s string) {
			checkText(t, d, uniform(roomy), s)
			checkParses(t, d, s)
		})
	})
}

// P6.1: every byte there is, in each state of each dialect, and behind it nothing or another one.
func TestEveryByte(t *testing.T) {
	eachDialect(func(d api.Dialect) {
		delim, quote := string([]byte{d.Delim}), string([]byte{d.Quote})
		for _, ahead := range []string{"", "x" + delim, "x", quote, quote + quote, "x\r", "\r", mark, mark[:2], "\xe2\x82"} {
			for b := range 256 {
				s := ahead + string([]byte{byte(b)})
				checkText(t, d, roomy, s)
				checkText(t, d, roomy, s+"\n")
				checkParses(t, d, s)
			}
		}
	})
}

// P6.1: all short texts with bytes of sequences, whole and cut.
func TestShortTextsOfSequences(t *testing.T) {
	for _, end := range ends {
		eachText("\xe2\x82\xac,\"\n", 5, func(s string) {
			checkText(t, comma(end), roomy, s)
			checkParses(t, comma(end), s)
		})
	}
}

// P6.1: all short texts behind the mark, and behind two, and of the mark's bytes.
func TestShortTextsWithTheMark(t *testing.T) {
	for _, end := range ends {
		eachText("a,\"\r\n", 4, func(s string) {
			for _, ahead := range []string{mark, mark + mark} {
				checkText(t, comma(end), roomy, ahead+s)
				checkParses(t, comma(end), ahead+s)
			}
		})
		eachText("\xef\xbb\xbf,\"", 5, func(s string) {
			checkText(t, comma(end), roomy, s)
			checkText(t, comma(end), roomy, mark+s)
		})
	}
}

// eachNarrow hands out all limits up to these numbers.
func eachNarrow(field, fields, records int, f func(api.Limits)) {
	for i := range field * fields * records {
		l := api.Limits{Field: 1 + i%field, Fields: 1 + i/field%fields, Records: 1 + i/field/fields}
		f(l)
		f(uniform(l))
	}
}

// P6.1: all short texts within narrow limits, with and without the mark.
func TestShortTextsWithinNarrowLimits(t *testing.T) {
	for _, end := range ends {
		eachText("a,\"\r\n", 5, func(s string) {
			eachNarrow(2, 2, 2, func(l api.Limits) { checkText(t, comma(end), l, s) })
		})
	}
	eachText("a,\n", 7, func(s string) {
		checkText(t, comma(api.LF), api.Limits{Field: 3, Fields: 3, Records: 2, Uniform: true}, s)
		checkText(t, comma(api.LF), api.Limits{Field: 2, Fields: 3, Records: 3}, mark+s)
	})
	eachText("\xc3\x80,\"\n", 5, func(s string) {
		eachNarrow(2, 2, 1, func(l api.Limits) { checkText(t, comma(api.LF), l, s) })
	})
}

// within are limits that are three different numbers, so that none passes for another.
var within = api.Limits{Field: 4, Fields: 3, Records: 2}

// written are texts, with their records and faults written out, so that nothing hangs on told.
var written = []struct {
	name  string
	d     api.Dialect
	l     api.Limits
	s     string
	want  [][]string
	fault api.Fault
}{
	{"the chapter's example", comma(api.LF), roomy, "a,\"b\"\"c\"\n\nd", [][]string{{"a", `b"c`}, {"d"}}, api.Fault{}},

	{"no text", comma(api.LF), roomy, "", nil, api.Fault{}},
	{"empty lines: LF", comma(api.LF), roomy, "\n\n\n", nil, api.Fault{}},
	{"empty lines: CRLF", comma(api.CRLF), roomy, "\r\n\r\n", nil, api.Fault{}},
	{"empty lines: Either", comma(api.Either), roomy, "\n\r\n\n", nil, api.Fault{}},
	{"empty lines about a record", comma(api.CRLF), roomy, "\r\na\r\n\r\nb\r\n\r\n", [][]string{{"a"}, {"b"}}, api.Fault{}},
	{"a last record with an end of line", comma(api.LF), roomy, "a\nb\n", [][]string{{"a"}, {"b"}}, api.Fault{}},
	{"a last record without", comma(api.LF), roomy, "a\nb", [][]string{{"a"}, {"b"}}, api.Fault{}},
	{"a last record that is one Delim", comma(api.CRLF), roomy, "a\r\n,", [][]string{{"a"}, {"", ""}}, api.Fault{}},
	{"fields without bytes", comma(api.LF), roomy, ",\n,,\na,\n,a", [][]string{{"", ""}, {"", "", ""}, {"a", ""}, {"", "a"}}, api.Fault{}},
	{"a quoted field without bytes alone", comma(api.LF), roomy, "\"\"\n\n\"\"", [][]string{{""}, {""}}, api.Fault{}},
	{"a quoted field that holds Delims and Quotes", comma(api.LF), roomy, "\",\"\"\",\"\"\"\"\"\"", [][]string{{`,"`, `""`}}, api.Fault{}},
	{"a quoted field that holds ends of line: LF", comma(api.LF), roomy, "\"\r\n\",\"\r\"\n\"\n\n\"", [][]string{{"\r\n", "\r"}, {"\n\n"}}, api.Fault{}},
	{"a quoted field that holds ends of line: CRLF", comma(api.CRLF), roomy, "\"\n\",\"\r\"\r\n\"\r\n\r\"", [][]string{{"\n", "\r"}, {"\r\n\r"}}, api.Fault{}},
	{"either end by turns", comma(api.Either), roomy, "a\nb,c\r\n\"\r\n\"\r\nd\n", [][]string{{"a"}, {"b", "c"}, {"\r\n"}, {"d"}}, api.Fault{}},
	{"another dialect", api.Dialect{Delim: ';', Quote: '\'', End: api.LF}, roomy, "a;'b''c';\"d,\"\n", [][]string{{"a", "b'c", `"d,"`}}, api.Fault{}},
	{"bytes that no text has", api.Dialect{Delim: 0, Quote: 0x7f, End: api.CRLF}, roomy, "a\x00\x7f\x00\x7f\x7f\x7f\x00\r\n", [][]string{{"a", "\x00\x7f", ""}}, api.Fault{}},
	{"blanks belong to fields", comma(api.LF), roomy, " a , b \n \n", [][]string{{" a ", " b "}, {" "}}, api.Fault{}},
	{"characters of each length", comma(api.LF), roomy, "é,€\n\"😀\"", [][]string{{"é", "€"}, {"😀"}}, api.Fault{}},

	{"the mark alone", comma(api.LF), roomy, mark, nil, api.Fault{}},
	{"the mark", comma(api.CRLF), roomy, mark + "a,b\r\nc", [][]string{{"a", "b"}, {"c"}}, api.Fault{}},
	{"the mark ahead of a quoted field", comma(api.LF), roomy, mark + "\"a\"", [][]string{{"a"}}, api.Fault{}},
	{"the mark ahead of an empty line", comma(api.LF), roomy, mark + "\n", nil, api.Fault{}},
	{"the mark twice", comma(api.LF), roomy, mark + mark, [][]string{{mark}}, api.Fault{}},
	{"the mark twice ahead of a quoted field", comma(api.LF), roomy, mark + mark + "\"a\"", nil, api.Fault{Kind: api.ErrQuote, At: 6}},
	{"the mark elsewhere", comma(api.LF), roomy, "a" + mark + "\n" + mark + "b", [][]string{{"a" + mark}, {mark + "b"}}, api.Fault{}},
	{"the mark's first byte alone", comma(api.LF), roomy, mark[:1], nil, api.Fault{Kind: api.ErrCut, At: 1}},
	{"the mark's first bytes alone", comma(api.LF), roomy, mark[:2], nil, api.Fault{Kind: api.ErrCut, At: 2}},
	{"the mark's first byte and another one", comma(api.LF), roomy, mark[:1] + "a", nil, api.Fault{Kind: api.ErrUtf8, At: 1}},
	{"the mark's first bytes and an end of line", comma(api.LF), roomy, mark[:2] + "\n", nil, api.Fault{Kind: api.ErrUtf8, At: 2}},
	{"the mark's last bytes", comma(api.LF), roomy, mark[1:] + "a", nil, api.Fault{Kind: api.ErrUtf8, At: 0}},
	{"the mark, and a part of it", comma(api.LF), roomy, mark + mark[:2], nil, api.Fault{Kind: api.ErrCut, At: 5}},
	{"the mark, and another byte", comma(api.LF), roomy, mark + "\xff", nil, api.Fault{Kind: api.ErrUtf8, At: 3}},
	{"the mark and a fault", comma(api.LF), roomy, mark + "a\nb\"", [][]string{{"a"}}, api.Fault{Kind: api.ErrQuote, At: 6}},
	{"the mark and an open quote", comma(api.LF), roomy, mark + "\"", nil, api.Fault{Kind: api.ErrOpen, At: 4}},
	{"the mark is no field's", comma(api.LF), within, mark + "abcd,e\nf", [][]string{{"abcd", "e"}, {"f"}}, api.Fault{}},
	{"the mark's bytes are counted in a limit's place", comma(api.LF), within, mark + "abcde", nil, api.Fault{Kind: api.ErrField, At: 7}},
	{"what begins as the mark does is a field's", comma(api.LF), api.Limits{Field: 1, Fields: 1, Records: 1}, mark[:2], nil, api.Fault{Kind: api.ErrField, At: 1}},
	{"the second mark is a field's", comma(api.LF), api.Limits{Field: 2, Fields: 1, Records: 1}, mark + mark, nil, api.Fault{Kind: api.ErrField, At: 5}},

	{"ErrUtf8 first", comma(api.LF), roomy, "\x80a\nb\n", nil, api.Fault{Kind: api.ErrUtf8, At: 0}},
	{"ErrUtf8 in the middle", comma(api.LF), roomy, "a\nb\xc3,c\nd", [][]string{{"a"}}, api.Fault{Kind: api.ErrUtf8, At: 4}},
	{"ErrUtf8 within quotes", comma(api.LF), roomy, "a\n\"b\xe0\x9f\"", [][]string{{"a"}}, api.Fault{Kind: api.ErrUtf8, At: 5}},
	{"ErrUtf8 last", comma(api.LF), roomy, "a\nb\n\xff", [][]string{{"a"}, {"b"}}, api.Fault{Kind: api.ErrUtf8, At: 4}},
	{"ErrUtf8 at an end of line: no record is whole with it", comma(api.LF), roomy, "a\nb\xc3\nc", [][]string{{"a"}}, api.Fault{Kind: api.ErrUtf8, At: 4}},
	{"ErrQuote first", comma(api.LF), roomy, "a\"b\"\n", nil, api.Fault{Kind: api.ErrQuote, At: 1}},
	{"ErrQuote in the middle", comma(api.LF), roomy, "a\nb,c\"\nd", [][]string{{"a"}}, api.Fault{Kind: api.ErrQuote, At: 5}},
	{"ErrQuote last", comma(api.CRLF), roomy, "a\r\nb\"", [][]string{{"a"}}, api.Fault{Kind: api.ErrQuote, At: 4}},
	{"ErrAfter first", comma(api.LF), roomy, "\"\"a\nb", nil, api.Fault{Kind: api.ErrAfter, At: 2}},
	{"ErrAfter in the middle", comma(api.LF), roomy, "a\n\"b\" ,c\n", [][]string{{"a"}}, api.Fault{Kind: api.ErrAfter, At: 5}},
	{"ErrAfter last", comma(api.LF), roomy, "a\nb,\"\"\"\"c", [][]string{{"a"}}, api.Fault{Kind: api.ErrAfter, At: 8}},
	{"ErrEnd first: LF", comma(api.LF), roomy, "\r\n", nil, api.Fault{Kind: api.ErrEnd, At: 0}},
	{"ErrEnd first: CRLF", comma(api.CRLF), roomy, "\na\r\n", nil, api.Fault{Kind: api.ErrEnd, At: 0}},
	{"ErrEnd first: Either", comma(api.Either), roomy, "\r\ra", nil, api.Fault{Kind: api.ErrEnd, At: 1}},
	{"ErrEnd in the middle: LF", comma(api.LF), roomy, "a\nb,c\r\nd", [][]string{{"a"}}, api.Fault{Kind: api.ErrEnd, At: 5}},
	{"ErrEnd in the middle: CRLF", comma(api.CRLF), roomy, "a\r\n\"b\"\nd", [][]string{{"a"}}, api.Fault{Kind: api.ErrEnd, At: 6}},
	{"ErrEnd behind a carriage return: the record isn't whole", comma(api.Either), roomy, "a\nb\r,c", [][]string{{"a"}}, api.Fault{Kind: api.ErrEnd, At: 4}},
	{"ErrEnd, not ErrQuote, behind a carriage return", comma(api.Either), roomy, "a\nb\r\"", [][]string{{"a"}}, api.Fault{Kind: api.ErrEnd, At: 4}},
	{"ErrEnd, not ErrAfter, behind a closing quote", comma(api.LF), roomy, "\"a\"\r", nil, api.Fault{Kind: api.ErrEnd, At: 3}},
	{"ErrEnd last: LF", comma(api.LF), roomy, "a\n\r", [][]string{{"a"}}, api.Fault{Kind: api.ErrEnd, At: 2}},
	{"ErrEnd last: CRLF", comma(api.CRLF), roomy, "a\r\n\n", [][]string{{"a"}}, api.Fault{Kind: api.ErrEnd, At: 3}},
	{"ErrEnd at the end: the record isn't whole", comma(api.CRLF), roomy, "a\r\nb\r", [][]string{{"a"}}, api.Fault{Kind: api.ErrEnd, At: 5}},
	{"ErrEnd at the end of an empty line", comma(api.Either), roomy, "a\n\r", [][]string{{"a"}}, api.Fault{Kind: api.ErrEnd, At: 3}},
	{"ErrEnd at the end of one byte", comma(api.CRLF), roomy, "\r", nil, api.Fault{Kind: api.ErrEnd, At: 1}},
	{"ErrCut of one byte", comma(api.LF), roomy, "\xc3", nil, api.Fault{Kind: api.ErrCut, At: 1}},
	{"ErrCut: the record isn't whole", comma(api.LF), roomy, "a\nb,\xf0\x9f\x98", [][]string{{"a"}}, api.Fault{Kind: api.ErrCut, At: 7}},
	{"ErrCut ahead of ErrOpen", comma(api.LF), roomy, "a\n\"b\xe2\x82", [][]string{{"a"}}, api.Fault{Kind: api.ErrCut, At: 6}},
	{"ErrCut ahead of ErrWidth", comma(api.LF), uniform(roomy), "a,b\n\xc3", [][]string{{"a", "b"}}, api.Fault{Kind: api.ErrCut, At: 5}},
	{"ErrOpen of one byte", comma(api.LF), roomy, "\"", nil, api.Fault{Kind: api.ErrOpen, At: 1}},
	{"ErrOpen behind a doubled quote", comma(api.LF), roomy, "a\n\"b\"\"", [][]string{{"a"}}, api.Fault{Kind: api.ErrOpen, At: 6}},
	{"ErrOpen behind an end of line", comma(api.LF), roomy, "a\n\"b\n", [][]string{{"a"}}, api.Fault{Kind: api.ErrOpen, At: 5}},
	{"ErrOpen, not ErrWidth", comma(api.LF), uniform(roomy), "a,b\n\"c", [][]string{{"a", "b"}}, api.Fault{Kind: api.ErrOpen, At: 6}},
	{"ErrEnd, not ErrWidth, at the end", comma(api.CRLF), uniform(roomy), "a\r\nb\r\n\r", [][]string{{"a"}, {"b"}}, api.Fault{Kind: api.ErrEnd, At: 7}},

	{"a limit of bytes, not of characters", comma(api.LF), within, "abcd,é€,f\n", nil, api.Fault{Kind: api.ErrField, At: 9}},
	{"limits that are just met", comma(api.LF), within, "abcd,éé,😀\ng,h,\"i\"\"j\"\"\"\n\n", [][]string{{"abcd", "éé", "😀"}, {"g", "h", `i"j"`}}, api.Fault{}},
	{"ErrRecords", comma(api.LF), within, "a\nb\nc", [][]string{{"a"}, {"b"}}, api.Fault{Kind: api.ErrRecords, At: 4}},
	{"ErrRecords first", comma(api.LF), api.Limits{Field: 1, Fields: 1, Records: 1}, "a\nb", [][]string{{"a"}}, api.Fault{Kind: api.ErrRecords, At: 2}},
	{"ErrRecords with a quote", comma(api.CRLF), within, "a\r\nb\r\n\r\n\"\"\r\n", [][]string{{"a"}, {"b"}}, api.Fault{Kind: api.ErrRecords, At: 8}},
	{"ErrRecords ahead of ErrFields", comma(api.LF), api.Limits{Field: 1, Fields: 1, Records: 1}, "a\n,", [][]string{{"a"}}, api.Fault{Kind: api.ErrRecords, At: 2}},
	{"ErrRecords ahead of ErrWidth", comma(api.LF), api.Limits{Field: 1, Fields: 9, Records: 1, Uniform: true}, "a\n,", [][]string{{"a"}}, api.Fault{Kind: api.ErrRecords, At: 2}},
	{"as many records as may be, and empty lines", comma(api.LF), within, "\na\n\nb\n\n", [][]string{{"a"}, {"b"}}, api.Fault{}},
	{"ErrField first", comma(api.LF), api.Limits{Field: 1, Fields: 1, Records: 1}, "ab", nil, api.Fault{Kind: api.ErrField, At: 1}},
	{"ErrField in the middle", comma(api.LF), within, "a\nb,cdefg,h", [][]string{{"a"}}, api.Fault{Kind: api.ErrField, At: 8}},
	{"ErrField last, within quotes", comma(api.LF), within, "a\n\"b\n\nc,\"", [][]string{{"a"}}, api.Fault{Kind: api.ErrField, At: 7}},
	{"ErrField at the second quote", comma(api.LF), within, "\"abcd\"\"\"", nil, api.Fault{Kind: api.ErrField, At: 6}},
	{"ErrFields first", comma(api.LF), api.Limits{Field: 1, Fields: 1, Records: 1}, ",", nil, api.Fault{Kind: api.ErrFields, At: 0}},
	{"ErrFields in the middle", comma(api.LF), within, "a,b,c\nd,e,f,g\nh", [][]string{{"a", "b", "c"}}, api.Fault{Kind: api.ErrFields, At: 11}},
	{"ErrFields last", comma(api.LF), within, "a\n,,,", [][]string{{"a"}}, api.Fault{Kind: api.ErrFields, At: 4}},
	{"ErrFields ahead of ErrWidth", comma(api.LF), uniform(within), "a,b,c\nd,e,f,", [][]string{{"a", "b", "c"}}, api.Fault{Kind: api.ErrFields, At: 11}},
	{"ErrWidth at a Delim", comma(api.LF), uniform(within), "a,b\nc,d,e", [][]string{{"a", "b"}}, api.Fault{Kind: api.ErrWidth, At: 7}},
	{"ErrWidth at the first Delim", comma(api.LF), uniform(within), "a\n,", [][]string{{"a"}}, api.Fault{Kind: api.ErrWidth, At: 2}},
	{"ErrWidth at a line feed", comma(api.LF), uniform(within), "a,b\nc\n", [][]string{{"a", "b"}}, api.Fault{Kind: api.ErrWidth, At: 5}},
	{"ErrWidth at a carriage return", comma(api.CRLF), uniform(within), "a,b\r\nc\r\n", [][]string{{"a", "b"}}, api.Fault{Kind: api.ErrWidth, At: 6}},
	{"ErrWidth at a carriage return, ahead of ErrEnd", comma(api.Either), uniform(within), "a,b\nc\rd", [][]string{{"a", "b"}}, api.Fault{Kind: api.ErrWidth, At: 5}},
	{"ErrWidth at the end", comma(api.LF), uniform(within), "a,b\n\"c\"", [][]string{{"a", "b"}}, api.Fault{Kind: api.ErrWidth, At: 7}},
	{"ErrWidth at the end, behind a Delim", comma(api.LF), uniform(within), "a,b,c\nd,", [][]string{{"a", "b", "c"}}, api.Fault{Kind: api.ErrWidth, At: 8}},
	{"ErrWidth by the first record, not the last", comma(api.LF), uniform(roomy), mark + "\na,b\nc,d\n\ne", [][]string{{"a", "b"}, {"c", "d"}}, api.Fault{Kind: api.ErrWidth, At: 14}},
	{"not uniform", comma(api.LF), roomy, "a,b\nc\nd,e,f\n\"\"", [][]string{{"a", "b"}, {"c"}, {"d", "e", "f"}, {""}}, api.Fault{}},
	{"uniform, and so it is", comma(api.CRLF), uniform(within), "a,b\r\n\r\n,\r\n", [][]string{{"a", "b"}, {"", ""}}, api.Fault{}},

	{"ErrUtf8 ahead of ErrAfter", comma(api.LF), roomy, "\"a\"\x80", nil, api.Fault{Kind: api.ErrUtf8, At: 3}},
	{"ErrUtf8 ahead of ErrQuote", comma(api.LF), roomy, "a\xc3\"", nil, api.Fault{Kind: api.ErrUtf8, At: 2}},
	{"ErrUtf8 ahead of ErrEnd", comma(api.LF), roomy, "a\xc3\r", nil, api.Fault{Kind: api.ErrUtf8, At: 2}},
	{"ErrUtf8 ahead of ErrEnd behind a carriage return", comma(api.CRLF), roomy, "a\r\xff", nil, api.Fault{Kind: api.ErrUtf8, At: 2}},
	{"ErrUtf8 ahead of ErrField", comma(api.LF), within, "abcd\x80", nil, api.Fault{Kind: api.ErrUtf8, At: 4}},
	{"ErrUtf8 ahead of ErrRecords", comma(api.LF), within, "a\nb\n\x80", [][]string{{"a"}, {"b"}}, api.Fault{Kind: api.ErrUtf8, At: 4}},
	{"ErrUtf8 ahead of ErrFields", comma(api.LF), within, ",,\xc3,", nil, api.Fault{Kind: api.ErrUtf8, At: 3}},
	{"ErrUtf8 ahead of ErrWidth", comma(api.LF), uniform(within), "a,b\nc\xc3\n", [][]string{{"a", "b"}}, api.Fault{Kind: api.ErrUtf8, At: 6}},
	{"ErrQuote ahead of ErrField", comma(api.LF), within, "abcd\"", nil, api.Fault{Kind: api.ErrQuote, At: 4}},
	{"ErrAfter ahead of ErrField", comma(api.LF), within, "\"abcd\"e", nil, api.Fault{Kind: api.ErrAfter, At: 6}},
	{"ErrEnd ahead of ErrWidth", comma(api.LF), uniform(within), "a,b\nc\r\n", [][]string{{"a", "b"}}, api.Fault{Kind: api.ErrEnd, At: 5}},
	{"ErrEnd ahead of ErrRecords", comma(api.LF), within, "a\nb\n\r", [][]string{{"a"}, {"b"}}, api.Fault{Kind: api.ErrEnd, At: 4}},
	{"the first place counts, not the kind: ErrField ahead of ErrUtf8", comma(api.LF), within, "abcde\x80", nil, api.Fault{Kind: api.ErrField, At: 4}},
	{"the first place counts, not the kind: ErrQuote ahead of ErrUtf8", comma(api.LF), roomy, "a\"\x80", nil, api.Fault{Kind: api.ErrQuote, At: 1}},
	{"the first place counts, not the kind: ErrRecords ahead of ErrQuote", comma(api.LF), within, "a\nb\nc\"", [][]string{{"a"}, {"b"}}, api.Fault{Kind: api.ErrRecords, At: 4}},
	{"a sequence's first byte is a byte of the field", comma(api.LF), within, "abc\xe2\x82\xac", nil, api.Fault{Kind: api.ErrField, At: 4}},
}

// P6.1: each of these texts.
func TestWrittenOut(t *testing.T) {
	for _, c := range written {
		t.Run(c.name, func(t *testing.T) {
			wantText(t, c.d, c.l, c.s, c.want, c.fault)
			// That told says so as well is why the other tests may hang on it.
			checkText(t, c.d, c.l, c.s)
			checkParses(t, c.d, c.s)
		})
	}
}

// wrongDialects are those that aren't right, by each part of them.
var wrongDialects = []api.Dialect{
	{},
	{Delim: ',', Quote: '"'},
	{Delim: ',', Quote: '"', End: -1},
	{Delim: ',', Quote: '"', End: 4},
	{Delim: ',', Quote: '"', End: math.MaxInt},
	{Delim: ',', Quote: ',', End: api.LF},
	{Delim: '\n', Quote: '"', End: api.LF},
	{Delim: '\r', Quote: '"', End: api.CRLF},
	{Delim: ',', Quote: '\n', End: api.Either},
	{Delim: ',', Quote: '\r', End: api.LF},
	{Delim: 0x80, Quote: '"', End: api.LF},
	{Delim: ',', Quote: 0xff, End: api.LF},
}

// wrongLimits are those that aren't right, by each part of them.
func wrongLimits() []api.Limits {
	var all []api.Limits
	for _, n := range []int{0, -1, math.MinInt, api.MaxLimit + 1, math.MaxInt} {
		all = append(all,
			api.Limits{Field: n, Fields: 9, Records: 9},
			api.Limits{Field: 9, Fields: n, Records: 9},
			api.Limits{Field: 9, Fields: 9, Records: n, Uniform: true},
			api.Limits{Field: n, Fields: n, Records: n})
	}
	return all
}

// texts are right ones, and ones with a fault at the first byte, at another one, and at the end.
var texts = []string{"", "a", "a,b\nc\n", mark, mark + "a\n", "\x80", "a\n\xff", "a\nb\"", "a\n\"b", "\r", "a\n\xe2"}

// P6.1: a dialect that isn't right, limits that aren't, and both, of whatever text: the dialect is asked first.
func TestWrongArguments(t *testing.T) {
	for _, s := range texts {
		for _, d := range wrongDialects {
			wrong := api.Fault{Kind: api.ErrDialect}
			wantText(t, d, roomy, s, nil, wrong)
			wantText(t, d, widest, s, nil, wrong)
			for _, l := range wrongLimits() {
				wantText(t, d, l, s, nil, wrong)
			}
			if whole.Parses(d, s) {
				t.Errorf("Parses(%v, %q) = true", d, s)
			}
		}
		for _, l := range wrongLimits() {
			eachDialect(func(d api.Dialect) { wantText(t, d, l, s, nil, api.Fault{Kind: api.ErrLimits}) })
		}
	}
}

// P6.1: limits at their edges are right.
func TestLimitsAtTheirEdges(t *testing.T) {
	for _, n := range []int{1, api.MaxLimit} {
		for _, l := range []api.Limits{
			{Field: n, Fields: 1, Records: 1},
			{Field: 1, Fields: n, Records: 1},
			{Field: 1, Fields: 1, Records: n},
			{Field: n, Fields: n, Records: n},
		} {
			for _, s := range texts {
				checkText(t, comma(api.LF), l, s)
				checkText(t, comma(api.LF), uniform(l), s)
			}
		}
	}
}

// P6.1: Parses has no limits that a text could come to, and asks for no number of fields.
func TestParses(t *testing.T) {
	for s, want := range map[string]bool{
		"":                              true,
		"a,b\nc\n\n,,,":                 true,
		strings.Repeat("a", 1<<17):      true,
		strings.Repeat(",", 1<<17):      true,
		strings.Repeat("a\n,\n", 1<<17): true,
		mark + "\"\r\n\"":               true,
		"\"":                            false,
		"a\"":                           false,
		"\"a\"b":                        false,
		"a\r\n":                         false,
		"a\xff":                         false,
		"a\xe2\x82":                     false,
	} {
		if got := whole.Parses(comma(api.LF), s); got != want {
			t.Errorf("Parses(%.20q) = %v", s, got)
		}
	}
}

// P6.1: each beginning of a text, and the text with each byte changed, so that each sort of fault is at each place.
func TestEachPlace(t *testing.T) {
	const s = mark + "id,\"a \"\"quill\"\"\"\r\n\r\n7,\"€,\r\n\"\r\n,\r\n\"\",é\r\n8,"
	for _, end := range ends {
		for i := range len(s) {
			checkText(t, comma(end), uniform(roomy), s[:i])
			for _, b := range []byte("x,\"\r\n\x80\xc3\xff") {
				changed := s[:i] + string([]byte{b}) + s[i+1:]
				checkText(t, comma(end), uniform(roomy), changed)
				checkText(t, comma(end), api.Limits{Field: 9, Fields: 2, Records: 4}, changed)
				checkParses(t, comma(end), changed)
			}
		}
	}
}

// P6.1: each limit that a text comes to, just met, just missed and missed by more.
func TestEachLimit(t *testing.T) {
	const s = "ab,\"c\"\"d\"\nef,,g\n\n\"\"\nh,i\nj,k\n"
	for _, ahead := range []string{"", mark} {
		eachNarrow(4, 4, 6, func(l api.Limits) { checkText(t, comma(api.LF), l, ahead+s) })
	}
}

// taken are the first n records that a sequence of them hands out to one who asks for no more.
func taken(t *testing.T, records iter.Seq[[]string], n int) [][]string {
	t.Helper()
	var all [][]string
	records(func(record []string) bool {
		if len(all) >= n {
			t.Fatalf("%q came, though no more than %d were asked for", record, n)
		}
		all = append(all, record)
		return len(all) < n
	})
	return all
}

// P6.1: whoever stops asking gets no more, wherever; and who asks anew gets all of them from the first one on.
func TestWhoeverStopsAsking(t *testing.T) {
	want := [][]string{{"a"}, {"b", "c"}, {""}, {"d"}}
	for _, s := range []string{"a\nb,c\n\"\"\n\nd", "a\nb,c\n\n\"\"\nd\n", "a\nb,c\n\"\"\nd\ne\"\nf\n", "a\nb,c\n\"\"\nd\n\xff", "a\nb,c\n\"\"\nd\n\"e\nf"} {
		records := whole.Records(comma(api.LF), roomy, s)
		for n := 1; n <= len(want); n++ {
			if got := taken(t, records, n); !same(got, want[:n]) {
				t.Errorf("%q, %d: %q", s, n, got)
			}
		}
		if got := ranged(records); !same(got, want) {
			t.Errorf("%q: %q", s, got)
		}
	}
}

// P6.1: the records are made one by one: of a text of very many the first ones cost no more than of a short one.
func TestRecordsAreMadeWhenTheyAreAskedFor(t *testing.T) {
	const line = "a,b\n"
	long := strings.Repeat(line, 1<<16)
	cost := func(s string, n int) float64 {
		return testing.AllocsPerRun(3, func() {
			got := taken(t, whole.Records(comma(api.LF), roomy, s), n)
			if len(got) != n {
				t.Fatal(len(got))
			}
		})
	}
	for _, n := range []int{1, 2, 10} {
		if short, all := cost(strings.Repeat(line, n), n), cost(long, n); all > short+2 {
			t.Errorf("the first %d records: %v allocations of so many, %v of more", n, short, all)
		}
	}
	cheap := testing.AllocsPerRun(3, func() { whole.Records(comma(api.LF), roomy, long) })
	if cheap > 10 {
		t.Errorf("%v allocations, though nobody asks for a record", cheap)
	}
}

// P6.1: one record at a time, with other things between.
func TestRecordsByTurns(t *testing.T) {
	records := whole.Records(comma(api.LF), roomy, "a,b\nc\nd\"")
	one, stopOne := iter.Pull(records)
	two, stopTwo := iter.Pull(records)
	defer stopOne()
	defer stopTwo()
	for _, c := range []struct {
		next func() ([]string, bool)
		want []string
	}{{one, []string{"a", "b"}}, {one, []string{"c"}}, {two, []string{"a", "b"}}, {one, nil}, {two, []string{"c"}}, {two, nil}, {one, nil}} {
		record, ok := c.next()
		if !slices.Equal(record, c.want) || ok != (c.want != nil) {
			t.Errorf("%q, %v; want %q", record, ok, c.want)
		}
		spoil(record)
	}
	n := 0
	for outer := range records {
		for inner := range records {
			if n++; len(inner) == 1 {
				spoil(outer)
				break
			}
			spoil(inner)
		}
	}
	if n != 4 {
		t.Error(n)
	}
}

// P6.1: whoever panics while asking gets that panic, and nothing is left behind for the next one.
func TestWhoeverPanics(t *testing.T) {
	records := whole.Records(comma(api.LF), roomy, "a\nb\n")
	func() {
		defer func() {
			if got := recover(); got != "enough" {
				t.Errorf("recovered %v", got)
			}
		}()
		for range records {
			panic("enough")
		}
	}()
	if got := ranged(records); !same(got, [][]string{{"a"}, {"b"}}) {
		t.Errorf("%q", got)
	}
}

// P6.1: what is answered is one's own: no record shares memory with another one, nor with the list of another answer.
func TestAnswersAreOnesOwn(t *testing.T) {
	const s = "a,b,c\n\"\"\n\nd,e\nf,g,h,i,j"
	want := [][]string{{"a", "b", "c"}, {""}, {"d", "e"}, {"f", "g", "h", "i", "j"}}
	d := comma(api.LF)
	for i := range want {
		records, _ := whole.Parse(d, roomy, s)
		kept, _ := whole.Parse(d, roomy, s)
		spoil(records[i])
		for j := range want {
			if j != i && !slices.Equal(records[j], want[j]) {
				t.Errorf("record %d is %q, as %d was overwritten", j, records[j], i)
			}
		}
		spoilAll(records)
		if !same(kept, want) {
			t.Errorf("%q, as another answer was overwritten", kept)
		}
	}
	var kept [][]string
	for record := range whole.Records(d, roomy, s) {
		kept = append(kept, record)
	}
	for i := range kept {
		spoil(kept[i][len(kept[i]):])
	}
	if !same(kept, want) {
		t.Errorf("%q, as what is behind them was overwritten", kept)
	}
}

// randomText is one of bytes that matter, of which most go on.
func randomText(r *rand.Rand, most int) []byte {
	parts := []string{"a", "b", ",", ",", "\"\"", "\"c,\"", "\n", "\r\n", "é", "€", "\"", "\r", "\x80"}
	var b []byte
	for range r.Intn(most) {
		n := len(parts)
		if r.Intn(8) > 0 {
			n -= 3
		}
		b = append(b, parts[r.Intn(n)]...)
	}
	return b
}

// P6.1: longer texts, as chance has it (always the same), within limits of every width.
func TestLongerTexts(t *testing.T) {
	r := rand.New(rand.NewSource(61))
	for range 3000 {
		s := string(randomText(r, 40))
		if r.Intn(3) == 0 {
			s = mark + s
		}
		d := dialects[0]
		d.End = ends[r.Intn(3)]
		l := api.Limits{Field: 1 + r.Intn(12), Fields: 1 + r.Intn(9), Records: 1 + r.Intn(9), Uniform: r.Intn(2) == 0}
		checkText(t, d, l, s)
		checkText(t, d, roomy, s)
		checkParses(t, d, s)
	}
}

// P1: long texts come to their end: one field, one record, many records, many empty lines; with a fault at the end.
func TestLongTexts(t *testing.T) {
	const n = 1 << 20
	d := comma(api.Either)
	for _, c := range []struct {
		s       string
		records int
		fault   api.Fault
	}{
		{strings.Repeat("a", n), 1, api.Fault{}},
		{"\"" + strings.Repeat("\"\"", n) + "\"", 1, api.Fault{}},
		{"\"" + strings.Repeat("\"\"", n), 0, api.Fault{Kind: api.ErrOpen, At: 2*n + 1}},
		{strings.Repeat(",", n), 1, api.Fault{}},
		{strings.Repeat(",\n", n), n, api.Fault{}},
		{strings.Repeat("\r\n", n), 0, api.Fault{}},
		{strings.Repeat("\r\n", n) + "\r", 0, api.Fault{Kind: api.ErrEnd, At: 2*n + 1}},
		{mark + strings.Repeat("a\r\n", n) + "a\x80", n, api.Fault{Kind: api.ErrUtf8, At: 3*n + 4}},
	} {
		records, fault := whole.Parse(d, widest, c.s)
		if len(records) != c.records || fault != c.fault {
			t.Errorf("%.10q ..: %d records, %v", c.s, len(records), fault)
		}
		if f := whole.First(d, widest, c.s); f != c.fault || whole.Parses(d, c.s) != (f == api.Fault{}) {
			t.Errorf("%.10q ..: %v", c.s, f)
		}
	}
	exact := api.Limits{Field: n, Fields: n, Records: n}
	for _, c := range []struct {
		s     string
		fault api.Fault
	}{
		{strings.Repeat("a", n), api.Fault{}},
		{strings.Repeat("a", n+1), api.Fault{Kind: api.ErrField, At: n}},
		{strings.Repeat(",", n-1), api.Fault{}},
		{strings.Repeat(",", n), api.Fault{Kind: api.ErrFields, At: n - 1}},
		{strings.Repeat("a\n", n), api.Fault{}},
		{strings.Repeat("a\n", n) + "b", api.Fault{Kind: api.ErrRecords, At: 2 * n}},
	} {
		if f := whole.First(d, exact, c.s); f != c.fault {
			t.Errorf("%.10q ..: %v; want %v", c.s, f, c.fault)
		}
	}
}

func FuzzText(f *testing.F) {
	f.Add(byte(','), byte('"'), byte(0), 9, 9, 9, true, "a,\"b\"\"c\"\n\nd")
	f.Add(byte(';'), byte('\''), byte(1), 2, 3, 4, false, mark+"a;'b'\r\n\r\n")
	f.Add(byte('\t'), byte(0), byte(2), 1, 1, 1, true, "\x00\r\x00\r\n\xe2\x82")
	f.Fuzz(func(t *testing.T, delim, quote, end byte, field, fields, records int, uniform bool, s string) {
		d := api.Dialect{Delim: delim & 0x7f, Quote: quote & 0x7f, End: int(end%3) + 1}
		if d.Delim == d.Quote || strings.ContainsAny("\r\n", string([]byte{d.Delim, d.Quote})) || len(s) > 1000 {
			return
		}
		narrow := func(n int) int { return 1 + (n%50+50)%50 }
		checkText(t, d, api.Limits{Field: narrow(field), Fields: narrow(fields), Records: narrow(records), Uniform: uniform}, s)
		checkParses(t, d, s)
	})
}
