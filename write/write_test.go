package write_test

import (
	"iter"
	"math"
	"math/rand"
	"slices"
	"strconv"
	"strings"
	"testing"
	"unicode/utf8"

	"quillpen/api"
	"quillpen/whole"
	"quillpen/write"
)

const mark = "\xef\xbb\xbf"

var ends = []int{api.LF, api.CRLF, api.Either}

// dialects are right ones, but for their End: usual ones, bytes that no text has, letters, and ones beside the ends of line.
var dialects = []api.Dialect{
	{Delim: ',', Quote: '"'},
	{Delim: ';', Quote: '\''},
	{Delim: '\t', Quote: 0},
	{Delim: 0, Quote: 0x7f},
	{Delim: 'a', Quote: 'b'},
	{Delim: '"', Quote: ','},
	{Delim: 0x0b, Quote: 0x0c},
	{Delim: 0x09, Quote: 0x0e},
}

// wrongDialects are some that aren't right, by each of their parts.
var wrongDialects = []api.Dialect{
	{},
	{Delim: ',', Quote: '"'},
	{Delim: ',', Quote: '"', End: 4},
	{Delim: ',', Quote: '"', End: -1},
	{Delim: ',', Quote: '"', End: math.MinInt},
	{Delim: ',', Quote: '"', End: math.MaxInt},
	{Delim: ',', Quote: ',', End: api.LF},
	{Delim: 0, Quote: 0, End: api.Either},
	{Delim: '\r', Quote: '"', End: api.LF},
	{Delim: '\n', Quote: '"', End: api.CRLF},
	{Delim: ',', Quote: '\r', End: api.LF},
	{Delim: ',', Quote: '\n', End: api.CRLF},
	{Delim: 0x80, Quote: '"', End: api.LF},
	{Delim: ',', Quote: 0x80, End: api.LF},
	{Delim: 0xef, Quote: 0xbb, End: api.Either},
	{Delim: 0xff, Quote: 0xff, End: api.LF},
}

// illFormed are texts that aren't UTF-8, by each way in which one may not be.
var illFormed = []string{
	"\x80", "\xbf", "\xc0\x80", "\xc1\xbf", "\xf5\x80\x80\x80", "\xfe", "\xff", // bytes that begin no sequence
	"\xc2", "\xe2", "\xe2\x82", "\xf0\x9f\x98", mark[:1], mark[:2], // cut sequences
	"\xe2\x28", "\xe2\x28\xa1", "\xc2x", "\xc2\xc2\x80", "\xef\xbbx", // sequences that don't go on
	"\xe0\x80\x80", "\xe0\x9f\xbf", "\xf0\x8f\xbf\xbf", // longer than need be
	"\xed\xa0\x80", "\xed\xbf\xbf", "\xf4\x90\x80\x80", // surrogates, and above 10FFFF
	mark[1:], "a\x80", "é\x80", "\x80a", "\xff,", "\xff\"", "\"\xff\"", "\r\xff\n", "\x00\xff", mark + "\xff",
}

// eachDialect hands out each right one of them with each end.
func eachDialect(f func(api.Dialect)) {
	for _, d := range dialects {
		for _, end := range ends {
			d.End = end
			f(d)
		}
	}
}

// eachRightDialect hands out every right dialect there is, those of each end at the same time as those of the others.
func eachRightDialect(t *testing.T, f func(*testing.T, api.Dialect)) {
	for _, end := range ends {
		t.Run(strconv.Itoa(end), func(t *testing.T) {
			t.Parallel()
			for delim := range 0x80 {
				for quote := range 0x80 {
					if d := (api.Dialect{Delim: byte(delim), Quote: byte(quote), End: end}); isRight(d) {
						f(t, d)
					}
				}
			}
		})
	}
}

// isRight is layer 1's word.
func isRight(d api.Dialect) bool {
	for _, b := range []byte{d.Delim, d.Quote} {
		if b >= 0x80 || b == 0x0d || b == 0x0a {
			return false
		}
	}
	return d.Delim != d.Quote && slices.Contains(ends, d.End)
}

func comma(end int) api.Dialect { return api.Dialect{Delim: ',', Quote: '"', End: end} }

// one is the text of one byte.
func one(b byte) string { return string([]byte{b}) }

// own is a dialect's own bytes: those that a field may not have bare.
func own(d api.Dialect) []string { return []string{one(d.Delim), one(d.Quote), "\r", "\n"} }

// endOf is layer 1's word of the end of line of a right dialect.
func endOf(d api.Dialect) string {
	return map[int]string{api.LF: "\n", api.CRLF: "\r\n", api.Either: "\n"}[d.End]
}

// toldLine is the chapter's words of a record's line, told byte by byte.
func toldLine(d api.Dialect, r []string, first bool) string {
	var told []byte
	for i, f := range r {
		if i > 0 {
			told = append(told, d.Delim)
		}
		if !mustBeQuoted(d, f, len(r) == 1, i == 0 && first) {
			told = append(told, f...)
			continue
		}
		told = append(told, d.Quote)
		for k := range len(f) {
			told = append(told, f[k])
			if f[k] == d.Quote {
				told = append(told, f[k])
			}
		}
		told = append(told, d.Quote)
	}
	return string(told) + endOf(d)
}

// mustBeQuoted is layer 8's words of a field.
func mustBeQuoted(d api.Dialect, f string, alone, first bool) bool {
	for i := range len(f) {
		if f[i] == d.Delim || f[i] == d.Quote || f[i] == 0x0d || f[i] == 0x0a {
			return true
		}
	}
	return len(f) == 0 && alone || len(f) >= 3 && f[:3] == mark && first
}

// toldError is the chapter's words of what is wrong with a line.
func toldError(d api.Dialect, r []string) api.Errno {
	switch {
	case !isRight(d):
		return api.ErrDialect
	case len(r) == 0:
		return api.ErrEmpty
	case slices.ContainsFunc(r, func(f string) bool { return !utf8.ValidString(f) }):
		return api.ErrText
	}
	return api.OK
}

// toldLines is the chapter's words of a table's lines, and of what is wrong with it behind these.
func toldLines(d api.Dialect, table [][]string) ([]string, api.Errno) {
	if !isRight(d) {
		return nil, api.ErrDialect
	}
	var lines []string
	for i, r := range table {
		if e := toldError(d, r); e != api.OK {
			return lines, e
		}
		lines = append(lines, toldLine(d, r, i == 0))
	}
	return lines, api.OK
}

func same(a, b [][]string) bool { return slices.EqualFunc(a, b, slices.Equal[[]string]) }

// spare is what stands in the room behind the lists that are handed in.
const spare = "spare"

// spared is a copy of a table, with such room behind each record, and behind the last one.
func spared(table [][]string) [][]string {
	copied := make([][]string, 0, len(table)+1)
	for _, r := range table {
		copied = append(copied, append(slices.Clone(r), spare)[:len(r)])
	}
	return append(copied, []string{spare})[:len(table)]
}

// wantUntouched asks that a table that was handed in is as it was, with the room behind it.
func wantUntouched(t *testing.T, given, table [][]string) {
	all := given[:len(given)+1]
	ok := same(given, table) && slices.Equal(all[len(given)], []string{spare})
	for _, r := range given {
		ok = ok && r[:len(r)+1][len(r)] == spare
	}
	if !ok {
		t.Helper()
		t.Fatalf("%q was written into: %q", table, all)
	}
}

// wantLine holds Line of a record against a text.
func wantLine(t *testing.T, d api.Dialect, r []string, first bool, want string) {
	given := spared([][]string{r})
	if s, e := write.Line(d, given[0], first); s != want || e != api.OK {
		t.Helper()
		t.Fatalf("Line(%v, %q, %v) = %q, %d; want %q", d, r, first, s, e, want)
	}
	wantUntouched(t, given, [][]string{r})
}

// wantAnyLine holds Line of a record against a text that doesn't hang on which record it is.
func wantAnyLine(t *testing.T, d api.Dialect, r []string, want string) {
	wantLine(t, d, r, true, want)
	wantLine(t, d, r, false, want)
}

// wantNoLine holds Line of a record, the first one and another one, against an error, beside which there is nothing.
func wantNoLine(t *testing.T, d api.Dialect, r []string, want api.Errno) {
	given := spared([][]string{r})
	for _, first := range []bool{false, true} {
		if s, e := write.Line(d, given[0], first); s != "" || e != want {
			t.Helper()
			t.Fatalf("Line(%v, %q, %v) = %q, %d; want error %d", d, r, first, s, e, want)
		}
	}
	wantUntouched(t, given, [][]string{r})
}

// checkLine holds Line of a record against the chapter.
func checkLine(t *testing.T, d api.Dialect, r []string) {
	if e := toldError(d, r); e != api.OK {
		wantNoLine(t, d, r, e)
		return
	}
	wantLine(t, d, r, true, toldLine(d, r, true))
	wantLine(t, d, r, false, toldLine(d, r, false))
}

// ranged is all that is handed out, whose numbers are asked to be from 0 on.
func ranged(t *testing.T, lines iter.Seq2[int, string]) []string {
	var all []string
	for i, s := range lines {
		if i != len(all) {
			t.Helper()
			t.Fatalf("the line %q has the number %d; want %d", s, i, len(all))
		}
		all = append(all, s)
	}
	return all
}

// wantTable holds all that is said of a table against its lines up to the first record that may not be written, and that one's error.
func wantTable(t *testing.T, d api.Dialect, table [][]string, lines []string, want api.Errno) {
	given := spared(table)
	text := strings.Join(lines, "")
	if got := ranged(t, write.Lines(d, given)); !slices.Equal(got, lines) {
		t.Helper()
		t.Fatalf("Lines(%v, %q): %q; want %q", d, table, got, lines)
	}
	if n := write.Size(d, given); n != len(text) {
		t.Helper()
		t.Fatalf("Size(%v, %q) = %d; want %d", d, table, n, len(text))
	}
	if want != api.OK {
		text = ""
	}
	if s, n, e := write.Table(d, given); s != text || n != len(lines) || e != want {
		t.Helper()
		t.Fatalf("Table(%v, %q) = %q, %d, %d; want %q, %d, %d", d, table, s, n, e, text, len(lines), want)
	}
	wantUntouched(t, given, table)
}

// checkTable holds all that is said of a table against the chapter.
func checkTable(t *testing.T, d api.Dialect, table [][]string) {
	lines, e := toldLines(d, table)
	wantTable(t, d, table, lines, e)
}

// eachText hands out every text of at most so many of these parts.
func eachText(parts []string, most int, f func(string)) {
	eachList(parts, most, func(l []string) { f(strings.Join(l, "")) })
}

// eachList hands out every list of at most so many of these things, the empty one, too.
func eachList[T any](things []T, most int, f func([]T)) {
	var add func(l []T)
	add = func(l []T) {
		f(slices.Clone(l))
		if len(l) == most {
			return
		}
		for _, thing := range things {
			add(append(l[:len(l):len(l)], thing))
		}
	}
	add(nil)
}

// records are all of at least one and at most so many of these fields.
func records(fields []string, most int) [][]string {
	var all [][]string
	eachList(fields, most, func(r []string) {
		if len(r) > 0 {
			all = append(all, r)
		}
	})
	return all
}

// P10.1: the chapter's examples.
func TestChaptersExamples(t *testing.T) {
	wantAnyLine(t, comma(api.LF), []string{"a", ""}, "a,\n")
	wantAnyLine(t, comma(api.LF), []string{""}, "\"\"\n")
	wantTable(t, comma(api.LF), [][]string{{"a", ""}, {""}}, []string{"a,\n", "\"\"\n"}, api.OK)
}

// P10.1: records whose line doesn't hang on which one it is, written out but for the end of line: of one field, of several, of empty ones.
func TestLineWrittenOut(t *testing.T) {
	for _, end := range ends {
		d := comma(end)
		for _, c := range []struct {
			line string
			r    []string
		}{
			{`a`, []string{"a"}}, {` `, []string{" "}}, {`quill pen`, []string{"quill pen"}}, {`it's`, []string{"it's"}}, {`é€`, []string{"é€"}}, {"\x00", []string{"\x00"}},
			{`""`, []string{""}}, {`,`, []string{"", ""}}, {`,,`, []string{"", "", ""}}, {`,,,,`, []string{"", "", "", "", ""}},
			{`a,`, []string{"a", ""}}, {`,a`, []string{"", "a"}}, {`a,,b`, []string{"a", "", "b"}}, {`,a,`, []string{"", "a", ""}},
			{`a,b`, []string{"a", "b"}}, {`a,b,c`, []string{"a", "b", "c"}}, {`a, b ,c`, []string{"a", " b ", "c"}}, {`a;b,c`, []string{"a;b", "c"}},
			{`","`, []string{","}}, {`"a,b"`, []string{"a,b"}}, {`"a,b",c`, []string{"a,b", "c"}}, {`a,"b,c"`, []string{"a", "b,c"}}, {`",",",",`, []string{",", ",", ""}},
			{`""""`, []string{`"`}}, {`"a""b"`, []string{`a"b`}}, {`a,"b""""c","""",`, []string{"a", `b""c`, `"`, ""}}, {`"""a""",b`, []string{`"a"`, "b"}}, {`"""""",`, []string{`""`, ""}},
			{"\"\r\"", []string{"\r"}}, {"\"\n\"", []string{"\n"}}, {"\"\r\n\"", []string{"\r\n"}}, {"\"a\r\",\"\nb\",c", []string{"a\r", "\nb", "c"}}, {",\"a\nb\"", []string{"", "a\nb"}},
			{"\"a,\"\"b\"\"\r\n\",\x00,é", []string{"a,\"b\"\r\n", "\x00", "é"}},
		} {
			wantAnyLine(t, d, c.r, c.line+endOf(d))
			wantTable(t, d, [][]string{c.r}, []string{c.line + endOf(d)}, api.OK)
		}
	}
}

// P10.1: each end of line, written out.
func TestLineEnds(t *testing.T) {
	for end, want := range map[int]string{api.LF: "a,b\n", api.CRLF: "a,b\r\n", api.Either: "a,b\n"} {
		wantAnyLine(t, comma(end), []string{"a", "b"}, want)
		wantTable(t, comma(end), [][]string{{"a", "b"}, {"a", "b"}}, []string{want, want}, api.OK)
	}
}

// P10.1: fields that begin with the mark: quoted just as a text's very first one.
func TestLineMark(t *testing.T) {
	eachDialect(func(d api.Dialect) {
		q, delim, end := one(d.Quote), one(d.Delim), endOf(d)
		for _, f := range []string{mark, mark + "x", mark + mark, mark + "é"} {
			wantLine(t, d, []string{f}, true, q+f+q+end)
			wantLine(t, d, []string{f}, false, f+end)
			wantLine(t, d, []string{f, f}, true, q+f+q+delim+f+end)
			wantLine(t, d, []string{f, f}, false, f+delim+f+end)
			wantLine(t, d, []string{f, "", f}, true, q+f+q+delim+delim+f+end)
			wantAnyLine(t, d, []string{"x", f}, "x"+delim+f+end)
			wantAnyLine(t, d, []string{"", f}, delim+f+end)
			wantAnyLine(t, d, []string{"x" + f}, "x"+f+end)
			wantAnyLine(t, d, []string{f + q, f}, q+f+q+q+q+delim+f+end)
			wantAnyLine(t, d, []string{f + delim}, q+f+delim+q+end)
		}
		wantAnyLine(t, d, []string{"\uf000", "\ufefe"}, "\uf000"+delim+"\ufefe"+end)
	})
}

// P10.1: the empty field: quoted just where it is its record's only one, whichever record that is.
func TestLineEmptyField(t *testing.T) {
	eachDialect(func(d api.Dialect) {
		q, delim, end := one(d.Quote), one(d.Delim), endOf(d)
		wantAnyLine(t, d, []string{""}, q+q+end)
		for n := 2; n < 20; n++ {
			wantAnyLine(t, d, make([]string, n), strings.Repeat(delim, n-1)+end)
		}
		wantAnyLine(t, d, []string{"x", ""}, "x"+delim+end)
		wantAnyLine(t, d, []string{"", "x"}, delim+"x"+end)
		wantAnyLine(t, d, []string{"", q}, delim+q+q+q+q+end)
	})
}

// P10.1: other bytes that part and quote: those of other dialects are like any other ones.
func TestLineInOtherDialects(t *testing.T) {
	for _, end := range ends {
		for _, c := range []struct {
			delim, quote byte
			r            []string
			line         string
		}{
			{';', '\'', []string{"a", "b,c", `"`}, `a;b,c;"`}, {';', '\'', []string{"a;b", "it's", ""}, `'a;b';'it''s';`}, {';', '\'', []string{""}, `''`},
			{'"', ',', []string{"a", "b;c"}, `a"b;c`}, {'"', ',', []string{`a"b`, "c,d"}, `,a"b,",c,,d,`}, {'"', ',', []string{"", ""}, `"`}, {'"', ',', []string{""}, `,,`},
			{'\t', 0, []string{"a b", "c,d"}, "a b\tc,d"}, {'\t', 0, []string{"a\tb", "\x00", `"`}, "\x00a\tb\x00\t\x00\x00\x00\x00\t\""}, {'\t', 0, []string{""}, "\x00\x00"},
			{0, 0x7f, []string{"a", "", "b"}, "a\x00\x00b"}, {0, 0x7f, []string{"\x00", "\x7f"}, "\x7f\x00\x7f\x00\x7f\x7f\x7f\x7f"},
			{'|', 'b', []string{"x", "|", "b", "B"}, "x|b|b|bbbb|B"}, {'a', '\'', []string{"x", "a", "", "A"}, "xa'a'aaA"}, {' ', '_', []string{"a b", "c_d", "e"}, "_a b_ _c__d_ e"},
		} {
			d := api.Dialect{Delim: c.delim, Quote: c.quote, End: end}
			wantAnyLine(t, d, c.r, c.line+endOf(d))
		}
	}
}

// P10.1: every record of up to three of the fields that matter to a dialect, or of up to five of fewer.
func TestLineOfEveryRecord(t *testing.T) {
	t.Parallel()
	eachDialect(func(d api.Dialect) {
		fields := append(own(d), "", "x", "é", mark, mark+"x", "x"+mark, "\xff", "x"+one(d.Quote)+"x", one(d.Quote)+one(d.Quote), "\r\n")
		eachList(fields, 3, func(r []string) { checkLine(t, d, r) })
		eachList([]string{"", mark, one(d.Delim), "x"}, 5, func(r []string) { checkLine(t, d, r) })
	})
}

// P10.1: every byte there is, at a field's beginning, in its middle, and at its end, in each field.
func TestLineOfEveryByte(t *testing.T) {
	t.Parallel()
	eachDialect(func(d api.Dialect) {
		for b := range 256 {
			s := one(byte(b))
			for _, f := range []string{s, s + s, s + "xy", "x" + s + "y", "xy" + s, mark + s, s + mark, mark[:2] + s, mark[:1] + s + mark[2:], s + mark[1:], s + "\x80", "\xc3" + s} {
				for _, r := range [][]string{{f}, {f, "x"}, {"", f, "x"}, {"x", f}} {
					checkLine(t, d, r)
				}
			}
		}
	})
}

// P10.1: a record without fields may not be written.
func TestErrEmpty(t *testing.T) {
	eachDialect(func(d api.Dialect) {
		wantNoLine(t, d, []string{}, api.ErrEmpty)
		wantTable(t, d, [][]string{{}}, nil, api.ErrEmpty)
		wantTable(t, d, [][]string{{"x"}, {}}, []string{"x" + endOf(d)}, api.ErrEmpty)
		if s, e := write.Line(d, nil, true); s != "" || e != api.ErrEmpty {
			t.Errorf("%v: %q, %d", d, s, e)
		}
		if s, n, e := write.Table(d, [][]string{nil}); s != "" || n != 0 || e != api.ErrEmpty {
			t.Errorf("%v: %q, %d, %d", d, s, n, e)
		}
	})
}

// P10.1: a record may not be written, if one of its fields isn't well formed, whichever one it is, and whatever else it has.
func TestErrText(t *testing.T) {
	eachDialect(func(d api.Dialect) {
		for _, f := range illFormed {
			for n := 1; n < 5; n++ {
				for i := range n {
					r := []string{"x", one(d.Delim) + one(d.Quote), "", mark}[:n]
					r[i] = f
					wantNoLine(t, d, r, api.ErrText)
					wantTable(t, d, [][]string{r}, nil, api.ErrText)
				}
			}
			wantNoLine(t, d, []string{f, f}, api.ErrText)
		}
	})
}

// P10.1: each field is well formed by itself: a sequence that goes on in the next one is none, and whole ones are, to the last character.
func TestWellFormedFieldByField(t *testing.T) {
	for _, end := range ends {
		d := comma(end)
		for _, s := range []string{"é", "€", "😀", mark} {
			for i := 1; i < len(s); i++ {
				wantNoLine(t, d, []string{s[:i], s[i:]}, api.ErrText)
				wantNoLine(t, d, []string{"", s[:i], s[i:], ""}, api.ErrText)
				wantTable(t, d, [][]string{{"x"}, {s[:i]}, {s[i:]}}, []string{"x" + endOf(d)}, api.ErrText)
			}
			wantAnyLine(t, d, []string{"x", s + "x", "x" + s}, "x,"+s+"x,x"+s+endOf(d))
		}
		for _, s := range []string{"\u007f", "\u0080", "\u07ff", "\u0800", "\ud7ff", "\ue000", "\ufffd", "\uffff", "\U00010000", "\U0010ffff", "\u2028", "\u0085"} {
			wantAnyLine(t, d, []string{s, s}, s+","+s+endOf(d))
		}
	}
}

// P10.1: where several errors hold the dialect's is told, then that of no fields, then that of a field.
func TestOrderOfErrors(t *testing.T) {
	for _, d := range wrongDialects {
		for _, r := range [][]string{nil, {}, {"a"}, {""}, {"a", "b"}, {"\xff"}, {"a", "\xe2\x82"}, {mark}} {
			wantNoLine(t, d, r, api.ErrDialect)
			wantTable(t, d, [][]string{r}, nil, api.ErrDialect)
			wantTable(t, d, [][]string{{"a"}, r, {"b"}}, nil, api.ErrDialect)
		}
		wantTable(t, d, nil, nil, api.ErrDialect)
		wantTable(t, d, [][]string{}, nil, api.ErrDialect)
	}
	// Of several records the first one that may not be written counts, whatever is wrong with it.
	d, line := comma(api.LF), "a\n"
	wantTable(t, d, [][]string{nil, {"\xff"}}, nil, api.ErrEmpty)
	wantTable(t, d, [][]string{{"\xff"}, nil}, nil, api.ErrText)
	wantTable(t, d, [][]string{{"a"}, nil, {"\xff"}}, []string{line}, api.ErrEmpty)
	wantTable(t, d, [][]string{{"a"}, {"a", "\xff"}, nil}, []string{line}, api.ErrText)
	wantTable(t, d, [][]string{{"a"}, {"a"}, {"\xff"}, {"b"}, nil, {"\xff"}}, []string{line, line}, api.ErrText)
}

// P10.1: every Delim and every Quote that a dialect could have, with each end, and each End beside these.
func TestEveryDialectIsAsked(t *testing.T) {
	t.Parallel()
	for delim := range 256 {
		for quote := range 256 {
			for _, end := range ends {
				d := api.Dialect{Delim: byte(delim), Quote: byte(quote), End: end}
				checkLine(t, d, []string{"x", ""})
			}
		}
	}
	for end := -300; end < 300; end++ {
		checkTable(t, comma(end), [][]string{{"x", ","}, {mark}})
	}
	for _, bit := range []int{8, 16, 31, 32, 62} {
		for _, end := range ends {
			checkTable(t, comma(end+1<<bit), [][]string{{"x"}})
			checkTable(t, comma(end-1<<bit), [][]string{{"x"}})
		}
	}
}

// P10.1: tables written out, of no record, of one, of several, in which but the first record is a text's first one.
func TestTableWrittenOut(t *testing.T) {
	for _, end := range ends {
		d, e := comma(end), endOf(comma(end))
		wantTable(t, d, nil, nil, api.OK)
		wantTable(t, d, [][]string{}, nil, api.OK)
		wantTable(t, d, [][]string{{"a"}}, []string{"a" + e}, api.OK)
		wantTable(t, d, [][]string{{"a", "b"}, {"c", "d"}}, []string{"a,b" + e, "c,d" + e}, api.OK)
		wantTable(t, d, [][]string{{"a", "b"}, {""}, {"", ""}, {"c,d", "e"}}, []string{"a,b" + e, "\"\"" + e, "," + e, "\"c,d\",e" + e}, api.OK)
		wantTable(t, d, [][]string{{""}, {""}, {""}}, []string{"\"\"" + e, "\"\"" + e, "\"\"" + e}, api.OK)
		wantTable(t, d, [][]string{{"a"}, {"b", "c", "d"}, {"e", "f"}}, []string{"a" + e, "b,c,d" + e, "e,f" + e}, api.OK)
		wantTable(t, d, [][]string{{"\n"}, {"\r"}, {"\""}, {"\r\n"}}, []string{"\"\n\"" + e, "\"\r\"" + e, "\"\"\"\"" + e, "\"\r\n\"" + e}, api.OK)
	}
}

// P10.1: but the first record of a table is a text's first one, and of that but the first field.
func TestOnlyTheFirstRecordIsFirst(t *testing.T) {
	eachDialect(func(d api.Dialect) {
		q, delim, end := one(d.Quote), one(d.Delim), endOf(d)
		quoted, bare := q+mark+q+end, mark+end
		wantTable(t, d, [][]string{{mark}}, []string{quoted}, api.OK)
		wantTable(t, d, [][]string{{mark}, {mark}, {mark}}, []string{quoted, bare, bare}, api.OK)
		wantTable(t, d, [][]string{{"x"}, {mark}}, []string{"x" + end, bare}, api.OK)
		wantTable(t, d, [][]string{{""}, {mark}}, []string{q + q + end, bare}, api.OK)
		wantTable(t, d, [][]string{{mark, mark}, {mark, mark}}, []string{q + mark + q + delim + bare, mark + delim + bare}, api.OK)
		wantTable(t, d, [][]string{{"", mark}, {mark, ""}}, []string{delim + bare, mark + delim + end}, api.OK)
	})
}

// P10.1: a record that may not be written, as the first one, as the last one, and as each one between.
func TestTableWithARecordThatMayNotBeWritten(t *testing.T) {
	eachDialect(func(d api.Dialect) {
		right := [][]string{{mark, "x"}, {""}, {"", one(d.Delim)}, {mark}, {one(d.Quote)}, {"x", "\r\n"}}
		for n := 1; n <= len(right); n++ {
			for i := range n {
				table := slices.Clone(right[:n])
				lines, _ := toldLines(d, table[:i])
				for _, c := range []struct {
					r []string
					e api.Errno
				}{{nil, api.ErrEmpty}, {[]string{}, api.ErrEmpty}, {[]string{"\xff"}, api.ErrText}, {[]string{"x", "", "\xe2\x82"}, api.ErrText}, {[]string{mark[:2], "x"}, api.ErrText}} {
					table[i] = c.r
					wantTable(t, d, table, lines, c.e)
				}
			}
			checkTable(t, d, right[:n])
		}
	})
}

// P10.1: every table of up to three of the records that matter to a dialect, those that may not be written among them.
func TestEveryTable(t *testing.T) {
	t.Parallel()
	eachDialect(func(d api.Dialect) {
		q, delim := one(d.Quote), one(d.Delim)
		some := [][]string{nil, {""}, {"x"}, {"", ""}, {"x", "é"}, {mark}, {mark, mark}, {"x", mark}, {delim}, {q, "x"}, {"x", "\r"}, {"\n"}, {"\xff"}, {"x", "\xc3"}, {mark + q}}
		eachList(some, 3, func(table [][]string) { checkTable(t, d, table) })
	})
}

// taken are the first n lines that are handed out to one who asks for no more.
func taken(t *testing.T, lines iter.Seq2[int, string], n int) []string {
	var all []string
	lines(func(i int, s string) bool {
		if len(all) >= n || i != len(all) {
			t.Helper()
			t.Fatalf("%d: %q came behind %q, though no more than %d were asked for", i, s, all, n)
		}
		all = append(all, s)
		return len(all) < n
	})
	return all
}

// P10.1: whoever stops asking gets no more, wherever; and who asks anew gets all of them from the first one on.
func TestLinesAsFarAsIsAsked(t *testing.T) {
	want := []string{"\"" + mark + "\"\n", mark + "\n", "\"\"\n", "c,d\n"}
	right := [][]string{{mark}, {mark}, {""}, {"c", "d"}}
	for _, table := range [][][]string{right, append(slices.Clone(right), nil), append(slices.Clone(right), []string{"\xff"}, []string{"e"}), append(slices.Clone(right), []string{}, nil)} {
		lines := write.Lines(comma(api.LF), table)
		for n := 1; n <= len(want); n++ {
			if got := taken(t, lines, n); !slices.Equal(got, want[:n]) {
				t.Errorf("%q, %d: %q", table, n, got)
			}
		}
		for range 2 {
			if got := ranged(t, lines); !slices.Equal(got, want) {
				t.Errorf("%q: %q", table, got)
			}
		}
	}
}

// P10.1: the same lines gone through by turns, and within one another, know nothing of each other.
func TestLinesByTurns(t *testing.T) {
	lines := write.Lines(comma(api.LF), [][]string{{mark}, {mark}, nil})
	first, second := "\""+mark+"\"\n", mark+"\n"
	one, stopOne := iter.Pull2(lines)
	two, stopTwo := iter.Pull2(lines)
	defer stopOne()
	defer stopTwo()
	for _, c := range []struct {
		next func() (int, string, bool)
		i    int
		s    string
		ok   bool
	}{{one, 0, first, true}, {one, 1, second, true}, {two, 0, first, true}, {one, 0, "", false}, {two, 1, second, true}, {two, 0, "", false}, {one, 0, "", false}} {
		if i, s, ok := c.next(); i != c.i || s != c.s || ok != c.ok {
			t.Errorf("%d, %q, %v; want %d, %q, %v", i, s, ok, c.i, c.s, c.ok)
		}
	}
	var got []string
	for _, outer := range lines {
		for _, inner := range lines {
			got = append(got, outer+inner)
		}
	}
	if want := []string{first + first, first + second, second + first, second + second}; !slices.Equal(got, want) {
		t.Errorf("%q", got)
	}
}

// P10.1: a record is looked at when its line is asked for: what it was until then, and becomes behind that, doesn't matter.
func TestRecordsAreLookedAtWhenTheyAreAskedFor(t *testing.T) {
	table := [][]string{{"old"}, {"old", "old"}, nil, {"\xff"}, {"old"}}
	lines := write.Lines(comma(api.LF), table)
	table[0][0] = mark
	if got := taken(t, lines, 1); !slices.Equal(got, []string{"\"" + mark + "\"\n"}) {
		t.Fatalf("%q", got)
	}
	// What is done behind each line: to the next record, and to those that were told.
	behind := []func(){
		func() { table[1][1], table[0] = mark, nil },
		func() { table[2], table[1][0] = []string{"new", ""}, "\xff" },
		func() { table[3][0], table[2] = "a,b", []string{} },
		func() { table[4], table[3] = []string{"", "\n"}, nil },
		func() { table[4] = nil },
	}
	var got []string
	for i, s := range lines {
		got = append(got, s)
		behind[i]()
	}
	if want := []string{"\"" + mark + "\"\n", "old," + mark + "\n", "new,\n", "\"a,b\"\n", ",\"\n\"\n"}; !slices.Equal(got, want) {
		t.Fatalf("%q; want %q", got, want)
	}
	if got := ranged(t, lines); len(got) != 0 {
		t.Fatalf("%q", got)
	}
	copy(table, [][]string{{"a"}, {"b"}, {""}, {"c"}, {"d"}})
	if got, want := ranged(t, lines), []string{"a\n", "b\n", "\"\"\n", "c\n", "d\n"}; !slices.Equal(got, want) {
		t.Fatalf("%q; want %q", got, want)
	}
}

// P10.1: a record that may no more be written, when its line is asked for, ends the lines.
func TestRecordsThatBecomeWrong(t *testing.T) {
	for _, wrong := range [][]string{nil, {}, {"\xff"}, {"a", "\xe2\x82"}} {
		table := [][]string{{"a"}, {"b"}, {"c"}, {"d"}}
		var got []string
		for i, s := range write.Lines(comma(api.CRLF), table) {
			got = append(got, s)
			if i == 1 {
				table[2] = wrong
			}
		}
		if !slices.Equal(got, []string{"a\r\n", "b\r\n"}) {
			t.Errorf("%q: %q", wrong, got)
		}
	}
}

// P10.1: no table is one without records.
func TestNoTable(t *testing.T) {
	for _, d := range append(slices.Clone(wrongDialects), comma(api.LF), comma(api.CRLF), comma(api.Either)) {
		_, want := toldLines(d, nil)
		if s, n, e := write.Table(d, nil); s != "" || n != 0 || e != want {
			t.Errorf("%v: %q, %d, %d", d, s, n, e)
		}
		if n, lines := write.Size(d, nil), ranged(t, write.Lines(d, nil)); n != 0 || lines != nil {
			t.Errorf("%v: %d, %q", d, n, lines)
		}
	}
}

// P10.1: Size, written out, where all records may be written, where one may not, and in a dialect that isn't right.
func TestSizeWrittenOut(t *testing.T) {
	for _, c := range []struct {
		size, end int
		table     [][]string
	}{
		{0, api.LF, nil}, {2, api.LF, [][]string{{"a"}}}, {3, api.CRLF, [][]string{{"a"}}}, {2, api.Either, [][]string{{"a"}}}, {3, api.LF, [][]string{{""}}}, {4, api.CRLF, [][]string{{""}}},
		{2, api.LF, [][]string{{"", ""}}}, {6, api.LF, [][]string{{"a,b"}}}, {5, api.LF, [][]string{{`"`}}}, {5, api.LF, [][]string{{"é", "x"}}}, {10, api.LF, [][]string{{mark}, {mark}}},
		{0, api.LF, [][]string{nil, {"a"}}}, {2, api.LF, [][]string{{"a"}, {}, {"b"}}}, {8, api.CRLF, [][]string{{"a"}, {"\n"}, {"\xff"}}}, {0, api.LF, [][]string{{"a", "\xff"}}},
		{0, 0, [][]string{{"a"}}}, {0, 4, nil}, {0, -1, [][]string{{"a"}, {"b"}}},
	} {
		if n := write.Size(comma(c.end), c.table); n != c.size {
			t.Errorf("Size(%d, %q) = %d; want %d", c.end, c.table, n, c.size)
		}
	}
}

// P10.1: what was answered stays, whatever becomes of the table.
func TestTableIsNotKept(t *testing.T) {
	table := [][]string{{"a", "b"}, {""}}
	text, _, _ := write.Table(comma(api.LF), table)
	line, _ := write.Line(comma(api.LF), table[0], true)
	table[0][0], table[1] = "x", nil
	if text != "a,b\n\"\"\n" || line != "a,b\n" {
		t.Errorf("%q, %q", text, line)
	}
}

var widest = api.Limits{Field: api.MaxLimit, Fields: api.MaxLimit, Records: api.MaxLimit}

// wantRead asks that a table's text is read as the table.
func wantRead(t *testing.T, d api.Dialect, table [][]string) {
	text, n, e := write.Table(d, table)
	if n != len(table) || e != api.OK {
		t.Helper()
		t.Fatalf("Table(%v, %q) = %q, %d, %d", d, table, text, n, e)
	}
	if got, fault := whole.Parse(d, widest, text); fault != (api.Fault{}) || !same(got, table) {
		t.Helper()
		t.Fatalf("%v: %q is written %q, which is read as %q, %v", d, table, text, got, fault)
	}
}

// P10.2: tables of all short fields of a dialect's own bytes, each one at each place that it may have.
func TestShortFieldsAreRead(t *testing.T) {
	t.Parallel()
	eachDialect(func(d api.Dialect) {
		eachText(append(own(d), "x"), 4, func(f string) {
			for _, r := range [][]string{{f}, {f, "x"}, {"", f}, {f, f, f}} {
				wantRead(t, d, [][]string{r})
				wantRead(t, d, [][]string{{"x"}, r, {""}})
				wantRead(t, d, [][]string{r, r})
			}
		})
	})
}

// P10.2: all short tables of a dialect's own bytes, the mark, and others.
func TestShortTablesAreRead(t *testing.T) {
	t.Parallel()
	eachDialect(func(d api.Dialect) {
		some := records(append(own(d), "", "x", mark), 2)
		eachList(some, 2, func(table [][]string) { wantRead(t, d, table) })
		few := records([]string{"", mark, one(d.Quote), "\n"}, 2)
		eachList(few, 3, func(table [][]string) { wantRead(t, d, table) })
	})
}

// P10.1, P10.2: in every right dialect.
func TestTablesAreReadInEveryDialect(t *testing.T) {
	t.Parallel()
	eachRightDialect(t, func(t *testing.T, d api.Dialect) {
		q, delim := one(d.Quote), one(d.Delim)
		wantRead(t, d, nil)
		for _, r := range records(append(own(d), "", "x", mark), 2) {
			wantRead(t, d, [][]string{r})
			wantRead(t, d, [][]string{{mark}, r})
		}
		table := [][]string{{mark + "x", mark, ""}, {""}, {mark}, {"it's", "a,\"b\";\tc"}, {"", ""}, {"\x00\x7f", q + q + delim, "\r\n"}, {"é€😀", "", "", "xyz"}}
		checkTable(t, d, table)
		wantRead(t, d, table)
	})
}

// randomTable is of fields of the bytes that matter, and of others.
func randomTable(r *rand.Rand, d api.Dialect) [][]string {
	parts := append(own(d), "x", "é", "€", mark, " ", one(d.Quote), one(byte(r.Intn(0x80))))
	table := make([][]string, r.Intn(8))
	for i := range table {
		table[i] = make([]string, 1+r.Intn(6))
		for k := range table[i] {
			for range r.Intn(5) {
				table[i][k] += parts[r.Intn(len(parts))]
			}
		}
	}
	return table
}

// P10.1, P10.2: longer tables, as chance has it (always the same), as they are, and with a byte more in one field.
func TestLongerTables(t *testing.T) {
	t.Parallel()
	r := rand.New(rand.NewSource(101))
	eachDialect(func(d api.Dialect) {
		for range 1000 {
			table := randomTable(r, d)
			checkTable(t, d, table)
			wantRead(t, d, table)
			if len(table) > 0 {
				record := table[r.Intn(len(table))]
				record[r.Intn(len(record))] += one(byte(r.Intn(256)))
				checkTable(t, d, table)
			}
		}
	})
}

// mayBeShorter is the chapter's word of where a text may be shorter than that of the table as which it is read:
// its first field begins with the mark, and stands bare behind an empty line, which takes less than two Quotes.
func mayBeShorter(d api.Dialect, s string, table [][]string) bool {
	return strings.HasPrefix(table[0][0], mark) && strings.HasPrefix(s, "\n"+table[0][0]) && !mustBeQuoted(d, table[0][0], false, false)
}

// wantNoShorter asks that a text isn't shorter than that of the table as which it is read, but where it may be.
func wantNoShorter(t *testing.T, d api.Dialect, s string) {
	table, fault := whole.Parse(d, widest, s)
	if fault.Kind != api.OK {
		return
	}
	text, _, e := write.Table(d, table)
	if e != api.OK || len(text) > len(s) && !(len(text) == len(s)+1 && mayBeShorter(d, s, table)) {
		t.Helper()
		t.Fatalf("%v: %q is written %q, %d, but read of %q, too", d, table, text, e, s)
	}
}

// P10.3: the empty text, and all short ones that end with the dialect's end of line.
func TestNoShorterText(t *testing.T) {
	t.Parallel()
	eachDialect(func(d api.Dialect) {
		wantNoShorter(t, d, "")
		eachText(append(own(d), "x"), 6, func(s string) { wantNoShorter(t, d, s+endOf(d)) })
		eachText([]string{"x", one(d.Delim), endOf(d)}, 8, func(s string) { wantNoShorter(t, d, s+endOf(d)) })
		eachText([]string{one(d.Quote), one(d.Delim), "\n"}, 8, func(s string) { wantNoShorter(t, d, s+endOf(d)) })
	})
}

// P10.3: short texts that have the mark, or a part of it, among others.
func TestNoShorterTextWithTheMark(t *testing.T) {
	t.Parallel()
	eachDialect(func(d api.Dialect) {
		eachText(append(own(d), "x", mark), 5, func(s string) { wantNoShorter(t, d, s+endOf(d)) })
		eachText([]string{mark, one(d.Delim), one(d.Quote), endOf(d)}, 6, func(s string) { wantNoShorter(t, d, s+endOf(d)) })
		eachText([]string{"\xef", "\xbb", "\xbf", one(d.Quote)}, 7, func(s string) { wantNoShorter(t, d, s+endOf(d)) })
	})
}

// P10.3: every byte that a text may have by itself, and some longer characters, alone and among others.
func TestNoShorterTextOfOtherBytes(t *testing.T) {
	characters := []string{"\u0080", "\u0085", "\u00a0", "é", "\u07ff", "\u0800", "€", "\u2028", "\u3000", "\ufffd", "\uffff", "\U00010000", "😀", "\U0010ffff"}
	for b := range 0x80 {
		characters = append(characters, one(byte(b)))
	}
	eachDialect(func(d api.Dialect) {
		end, delim := endOf(d), one(d.Delim)
		for _, c := range characters {
			for _, f := range []string{c, c + c, c + "x", "x" + c, "x" + c + "y", " " + c, mark + c, c + mark} {
				for _, s := range []string{f, f + delim, delim + f, "x" + delim + f, f + end + f, "x" + end + f} {
					wantNoShorter(t, d, s+end)
				}
			}
		}
	})
}

// P10.3: in every right dialect.
func TestNoShorterTextInEveryDialect(t *testing.T) {
	t.Parallel()
	eachRightDialect(t, func(t *testing.T, d api.Dialect) {
		parts := append(own(d), "x", mark)
		wantNoShorter(t, d, "")
		eachText(parts, 2, func(s string) { wantNoShorter(t, d, s+endOf(d)) })
		for _, s := range []string{",", ";", "\"a\"", "it's", "\t", "\x00\x7f", "é,€", mark + "x"} {
			wantNoShorter(t, d, s+endOf(d))
			wantNoShorter(t, d, "x"+endOf(d)+s+endOf(d))
			wantNoShorter(t, d, "x"+one(d.Delim)+s+one(d.Delim)+endOf(d))
		}
	})
}

// P10.3: where the chapter says so there is a shorter text: the mark, bare behind an empty line, which takes as much as two Quotes, where it has two bytes.
func TestShorterTextWithTheMark(t *testing.T) {
	eachDialect(func(d api.Dialect) {
		end := endOf(d)
		for _, table := range [][][]string{{{mark}}, {{mark + "x", mark}, {mark}}, {{mark, ""}, {""}}} {
			line, _ := write.Line(d, table[0], false)
			text, _, _ := write.Table(d, table)
			first, _ := write.Line(d, table[0], true)
			s := end + line + strings.TrimPrefix(text, first)
			if got, fault := whole.Parse(d, widest, s); fault.Kind != api.OK || !same(got, table) {
				t.Fatalf("%v: %q is read as %q, %v; want %q", d, s, got, fault, table)
			}
			if len(text)-len(s) != 2-len(end) {
				t.Fatalf("%v: %q is written %q, and read of %q", d, table, text, s)
			}
			wantNoShorter(t, d, s)
		}
	})
}

// P1: long fields, records of very many fields, and tables of very many records come to their end.
func TestLongTables(t *testing.T) {
	const n = 1 << 20
	d := comma(api.CRLF)
	long, quotes := strings.Repeat("x", n), strings.Repeat(`"`, n)
	for _, table := range [][][]string{
		{{long, quotes, long + "," + long, mark + long, strings.Repeat("\r\n", n)}, {mark + long}},
		{make([]string, n), {"x"}},
		append(slices.Repeat([][]string{{""}, {mark, ","}}, n/16), make([]string, n/16)),
		append(slices.Repeat([][]string{{"x"}}, n/16), []string{long, "\xff"}, []string{"x"}),
		append(slices.Repeat([][]string{{"x"}}, n/16), nil),
		{append(make([]string, n), "\xff")},
		{{long + "\xff"}, {long}},
	} {
		checkTable(t, d, table)
		if _, e := toldLines(d, table); e == api.OK {
			wantRead(t, d, table)
		}
	}
}

func FuzzTable(f *testing.F) {
	f.Add(byte(','), byte('"'), byte(0), "a,\"b\"", "", mark)
	f.Add(byte(';'), byte('\''), byte(1), mark, "it's", "\xff")
	f.Add(byte('\t'), byte(0), byte(2), "", "\r\n", "\x00\t")
	f.Fuzz(func(t *testing.T, delim, quote, end byte, a, b, c string) {
		d := api.Dialect{Delim: delim, Quote: quote, End: int(end % 4)}
		for _, table := range [][][]string{{{a}}, {{a, b}, {c}}, {{a}, {b, c}}, {{a}, {b}, {c, a}}, {{c, b, a}, nil, {a}}} {
			checkTable(t, d, table)
			if _, _, e := write.Table(d, table); e == api.OK {
				wantRead(t, d, table)
			}
		}
		if isRight(d) {
			wantNoShorter(t, d, a+endOf(d))
			wantNoShorter(t, d, a+endOf(d)+b+endOf(d)+c+endOf(d))
		}
	})
}
