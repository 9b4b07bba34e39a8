package quote_test

import (
	"math"
	"math/rand"
	"slices"
	"strings"
	"testing"
	"unicode/utf8"

	"quillpen/api"
	"quillpen/quote"
	"quillpen/whole"
)

const mark = "\xef\xbb\xbf"

var ends = []int{api.LF, api.CRLF, api.Either}

// dialects are right ones, but for their End: usual ones, bytes that no text has, letters, and ones beside the ends of line.
var dialects = []api.Dialect{
	{Delim: ',', Quote: '"'},
	{Delim: ';', Quote: '\''},
	{Delim: '\t', Quote: 0},
	{Delim: 0, Quote: 0x7f},
	{Delim: 'a', Quote: 'b'},
	{Delim: '"', Quote: ','},
	{Delim: 0x0b, Quote: 0x0c},
	{Delim: 0x09, Quote: 0x0e},
}

// eachDialect hands out each of them with each end.
func eachDialect(f func(api.Dialect)) {
	for _, d := range dialects {
		for _, end := range ends {
			d.End = end
			f(d)
		}
	}
}

// eachRightDialect hands out every right dialect there is.
func eachRightDialect(f func(api.Dialect)) {
	for delim := range 0x80 {
		for quote := range 0x80 {
			for _, end := range ends {
				d := api.Dialect{Delim: byte(delim), Quote: byte(quote), End: end}
				if isRight(d) {
					f(d)
				}
			}
		}
	}
}

// isRight is layer 1's word.
func isRight(d api.Dialect) bool {
	return d.Delim < 0x80 && d.Quote < 0x80 && d.Delim != d.Quote && !strings.ContainsAny("\r\n", one(d.Delim)+one(d.Quote)) && slices.Contains(ends, d.End)
}

func comma(end int) api.Dialect { return api.Dialect{Delim: ',', Quote: '"', End: end} }

// one is the text of one byte.
func one(b byte) string { return string([]byte{b}) }

// own is a dialect's own bytes: those that a field may not have bare.
func own(d api.Dialect) string { return one(d.Delim) + one(d.Quote) + "\r\n" }

// toldQuoted is the chapter's words of a field quoted, told byte by byte.
func toldQuoted(d api.Dialect, f string) string {
	told := []byte{d.Quote}
	for i := range len(f) {
		told = append(told, f[i])
		if f[i] == d.Quote {
			told = append(told, f[i])
		}
	}
	return string(append(told, d.Quote))
}

// isBare tells whether a text has none of a dialect's own bytes.
func isBare(d api.Dialect, s string) bool {
	for i := range len(s) {
		if s[i] == d.Delim || s[i] == d.Quote || s[i] == 0x0d || s[i] == 0x0a {
			return false
		}
	}
	return true
}

// mustBeQuoted is layer 8's words of a field.
func mustBeQuoted(d api.Dialect, f string, alone, first bool) bool {
	return !isBare(d, f) || len(f) == 0 && alone || len(f) >= 3 && f[:3] == mark && first
}

// toldWritten is the chapter's words of a field as written.
func toldWritten(d api.Dialect, f string, alone, first bool) string {
	if mustBeQuoted(d, f, alone, first) {
		return toldQuoted(d, f)
	}
	return f
}

// eachPlace hands out all that a field's record may be.
func eachPlace(f func(alone, first bool)) {
	for _, alone := range []bool{false, true} {
		f(alone, false)
		f(alone, true)
	}
}

// eachText hands out every text of at most so many of these bytes.
func eachText(bytes string, most int, f func(string)) {
	var add func(s string)
	add = func(s string) {
		f(s)
		if len(s) == most {
			return
		}
		for i := range len(bytes) {
			add(s + bytes[i:i+1])
		}
	}
	add("")
}

// wantQuoted holds Quoted of a field against a text.
func wantQuoted(t *testing.T, d api.Dialect, f, want string) {
	if s := quote.Quoted(d, f); s != want {
		t.Helper()
		t.Fatalf("Quoted(%v, %q) = %q; want %q", d, f, s, want)
	}
}

// wantWritten holds Written and Size of a field against a text.
func wantWritten(t *testing.T, d api.Dialect, f string, alone, first bool, want string) {
	if s := quote.Written(d, f, alone, first); s != want {
		t.Helper()
		t.Fatalf("Written(%v, %q, %v, %v) = %q; want %q", d, f, alone, first, s, want)
	}
	if n := quote.Size(d, f, alone, first); n != len(want) {
		t.Helper()
		t.Fatalf("Size(%v, %q, %v, %v) = %d; want %d", d, f, alone, first, n, len(want))
	}
}

// wantAnywhere holds Written and Size of a field against a text that doesn't hang on its record.
func wantAnywhere(t *testing.T, d api.Dialect, f, want string) {
	t.Helper()
	eachPlace(func(alone, first bool) { wantWritten(t, d, f, alone, first, want) })
}

// wantField holds Unquote of a text against a field.
func wantField(t *testing.T, d api.Dialect, s, want string, quoted bool) {
	if f, is, e := quote.Unquote(d, s); f != want || is != quoted || e != api.OK {
		t.Helper()
		t.Fatalf("Unquote(%v, %q) = %q, %v, %d; want %q, %v", d, s, f, is, e, want, quoted)
	}
}

// wantError holds Unquote of a text against an error, beside which there is nothing.
func wantError(t *testing.T, d api.Dialect, s string, want api.Errno) {
	if f, is, e := quote.Unquote(d, s); f != "" || is || e != want {
		t.Helper()
		t.Fatalf("Unquote(%v, %q) = %q, %v, %d; want error %d", d, s, f, is, e, want)
	}
}

// checkField holds all that is said of a field against the chapter, and takes it back from each text that it comes to.
func checkField(t *testing.T, d api.Dialect, f string) {
	quoted := toldQuoted(d, f)
	wantQuoted(t, d, f, quoted)
	wantField(t, d, quoted, f, true)
	eachPlace(func(alone, first bool) {
		written := toldWritten(d, f, alone, first)
		wantWritten(t, d, f, alone, first, written)
		wantField(t, d, written, f, mustBeQuoted(d, f, alone, first))
	})
}

// P9.1: the chapter's example.
func TestChaptersExample(t *testing.T) {
	for _, end := range ends {
		d := api.Dialect{Delim: ',', Quote: '\'', End: end}
		wantQuoted(t, d, "it's", "'it''s'")
		wantAnywhere(t, d, "it's", "'it''s'")
		wantField(t, d, "'it''s'", "it's", true)
	}
}

// P9.1: fields quoted, written out, and taken back.
func TestQuotedWrittenOut(t *testing.T) {
	for _, end := range ends {
		for f, want := range map[string]string{
			"": `""`, "a": `"a"`, " ": `" "`, "quill pen": `"quill pen"`, "it's": `"it's"`, "é€": `"é€"`, mark: "\"" + mark + "\"", mark + "a": "\"" + mark + "a\"",
			`"`: `""""`, `""`: `""""""`, `"""`: `""""""""`, `""""`: `""""""""""`,
			`"a`: `"""a"`, `a"`: `"a"""`, `a"b`: `"a""b"`, `a""b`: `"a""""b"`, `a"b"c`: `"a""b""c"`, `"a"`: `"""a"""`, `""a""`: `"""""a"""""`,
			",": `","`, ",,": `",,"`, ",a": `",a"`, "a,b": `"a,b"`, "a,": `"a,"`, `","`: `""","""`, `",`: `""","`, `,"`: `","""`,
			"\r": "\"\r\"", "\ra": "\"\ra\"", "a\rb": "\"a\rb\"", "a\r": "\"a\r\"",
			"\n": "\"\n\"", "\na": "\"\na\"", "a\nb": "\"a\nb\"", "a\n": "\"a\n\"", "\r\n": "\"\r\n\"", "\"\r\"\n\"": "\"\"\"\r\"\"\n\"\"\"",
			"\xff": "\"\xff\"", "\xe2\x82": "\"\xe2\x82\"", "\x80\"\xff": "\"\x80\"\"\xff\"", "\xff\"": "\"\xff\"\"\"", "\xa2": "\"\xa2\"",
			"\x00": "\"\x00\"", "\x00\x00": "\"\x00\x00\"", "a\x00\"": "\"a\x00\"\"\"", "\x00\"\x00": "\"\x00\"\"\x00\"",
		} {
			wantQuoted(t, comma(end), f, want)
			wantField(t, comma(end), want, f, true)
		}
	}
}

// P9.1: other bytes that quote: those that other dialects quote by are like any other ones.
func TestQuotedInOtherDialects(t *testing.T) {
	for _, end := range ends {
		for _, c := range []struct {
			delim, quote byte
			f, want      string
		}{
			{';', '\'', `"`, `'"'`}, {';', '\'', `'`, `''''`}, {';', '\'', `"it's"; so`, `'"it''s"; so'`}, {';', '\'', ``, `''`},
			{'"', ',', `"`, `,",`}, {'"', ',', `,`, `,,,,`}, {'"', ',', `a,b"c`, `,a,,b"c,`}, {'"', ',', ``, `,,`},
			{'\t', 0, "\x00", "\x00\x00\x00\x00"}, {'\t', 0, "a\x00b\"", "\x00a\x00\x00b\"\x00"}, {'\t', 0, "", "\x00\x00"}, {'\t', 0, "\t", "\x00\t\x00"},
			{0, 0x7f, "\x7f", "\x7f\x7f\x7f\x7f"}, {0, 0x7f, "\x00\x7f\xff", "\x7f\x00\x7f\x7f\xff\x7f"}, {0, '"', "\x00\"", "\"\x00\"\"\""},
			{'a', 'b', "abba", "babbbbab"}, {'a', 'b', "x", "bxb"}, {'a', 'b', "B", "bBb"}, {',', ' ', "a  b", " a    b "},
		} {
			d := api.Dialect{Delim: c.delim, Quote: c.quote, End: end}
			wantQuoted(t, d, c.f, c.want)
			wantField(t, d, c.want, c.f, true)
		}
	}
}

// P9.1: fields that must be quoted wherever they stand, and are told to have been: layer 8's reasons 1 to 3.
func TestWrittenQuotedAnywhere(t *testing.T) {
	for _, end := range ends {
		for f, want := range map[string]string{
			",": `","`, ",a": `",a"`, "a,b": `"a,b"`, "a,": `"a,"`, "\xff,": "\"\xff,\"", "é,€": `"é,€"`, mark + ",": "\"" + mark + ",\"",
			`"`: `""""`, `""`: `""""""`, `"a`: `"""a"`, `a"b`: `"a""b"`, `a"`: `"a"""`, `"a"`: `"""a"""`, "\x00\"": "\"\x00\"\"\"", `a",`: `"a"","`, mark + `"`: "\"" + mark + `"""`,
			"\r": "\"\r\"", "\ra": "\"\ra\"", "a\rb": "\"a\rb\"", "a\r": "\"a\r\"", "\n": "\"\n\"", "\na": "\"\na\"", "a\nb": "\"a\nb\"", "a\n": "\"a\n\"", "\r\n": "\"\r\n\"", "\xff\r": "\"\xff\r\"",
		} {
			wantAnywhere(t, comma(end), f, want)
			wantField(t, comma(end), want, f, true)
		}
	}
}

// P9.1: fields that need not be quoted wherever they stand, and are told not to have been.
func TestWrittenBareAnywhere(t *testing.T) {
	for _, end := range ends {
		for _, f := range []string{
			"a", " ", "  ", "quill pen", " a ", "it's", "a;b\t", "é€", "\u2028\u0085\v\f", "\\", "\\n", "\x00", "a\x00", "\x7f",
			"\xff", "\xe2\x82", "\x80a", "\xac\xa2", "\x8d\x8a", mark[:1], mark[:2], mark[1:], "a" + mark, mark[:2] + mark, "\xef\xbb\xbe",
		} {
			wantAnywhere(t, comma(end), f, f)
			wantField(t, comma(end), f, f, false)
		}
		d := api.Dialect{Delim: ';', Quote: '\'', End: end}
		for _, f := range []string{",", `"`, `""`, `"a"`, `a,"b"`} {
			wantAnywhere(t, d, f, f)
			wantField(t, d, f, f, false)
		}
	}
}

// P9.1: the empty field: quoted just where it is alone in its record (layer 8's reason 4).
func TestWrittenEmpty(t *testing.T) {
	eachDialect(func(d api.Dialect) {
		quotes := one(d.Quote) + one(d.Quote)
		wantWritten(t, d, "", true, false, quotes)
		wantWritten(t, d, "", true, true, quotes)
		wantWritten(t, d, "", false, false, "")
		wantWritten(t, d, "", false, true, "")
		wantQuoted(t, d, "", quotes)
		wantField(t, d, quotes, "", true)
		wantField(t, d, "", "", false)
	})
}

// P9.1: fields that begin with the mark: quoted just where they are a text's first one (layer 8's reason 5).
func TestWrittenMark(t *testing.T) {
	eachDialect(func(d api.Dialect) {
		q := one(d.Quote)
		for _, f := range []string{mark, mark + "x", mark + " ", mark + mark, mark + "é", mark + "\xff"} {
			for _, alone := range []bool{false, true} {
				wantWritten(t, d, f, alone, true, q+f+q)
				wantWritten(t, d, f, alone, false, f)
			}
			wantField(t, d, q+f+q, f, true)
			wantField(t, d, f, f, false)
		}
	})
}

// P9.1: Unquote of Quotes alone: an even number of them is a field quoted, but none.
func TestUnquoteOfQuotes(t *testing.T) {
	eachDialect(func(d api.Dialect) {
		q := one(d.Quote)
		wantField(t, d, "", "", false)
		wantError(t, d, q, api.ErrQuote)
		wantField(t, d, q+q, "", true)
		wantError(t, d, q+q+q, api.ErrQuote)
		wantField(t, d, q+q+q+q, q, true)
		for n := range 40 {
			wantError(t, d, strings.Repeat(q, 2*n+1), api.ErrQuote)
			wantField(t, d, strings.Repeat(q, 2*n+2), strings.Repeat(q, n), true)
		}
	})
}

// P9.1: what begins with a Quote, and isn't a field quoted.
func TestUnquoteErrQuote(t *testing.T) {
	for _, end := range ends {
		for _, s := range []string{
			// Not closed.
			`"`, `"a`, `"abc`, `"a,b`, "\"a\nb", "\" ", `"""`, `"""a`, `"a""`, `"a""""`, `"a""b`, `"a""b""`, `"""""`, `"""a""`, "\"\xff", "\"\x00", "\"" + mark, `"é`,
			// A single Quote within.
			`"a"b"`, `"a"b"c"`, `"a"b""`, `"a""b"c"`, `"a"b""c"`, `"a"""b"`, `"""a"b"`, `"""a""b"c"`, `"a" "b"`, `"a","b"`, "\"a\"\n\"b\"", "\"a\"\x00\"", "\"\xff\"\xff\"",
			// Something behind the last Quote.
			`"a"b`, `""a`, `"a" `, `"" `, `"",`, `"a",`, `"a",b`, "\"a\"\n", "\"a\"\r", "\"a\"\r\n", "\"\"\n", `"a""b"c`, `""""a`, "\"a\"\xff", "\"a\"\x00", "\"\"" + mark,
			// The bytes of another error don't matter.
			`",`, "\"\n", "\"\r", `"a"b,`, "\"a\"b\n\"c",
		} {
			wantError(t, comma(end), s, api.ErrQuote)
		}
		d := api.Dialect{Delim: ';', Quote: '\'', End: end}
		for _, s := range []string{`'`, `'''`, `'a`, `'it's'`, `'a'b`, `'a"`, `'a';`, `'"`} {
			wantError(t, d, s, api.ErrQuote)
		}
	}
}

// P9.1: what doesn't begin with a Quote, and has one of the dialect's own bytes in it.
func TestUnquoteErrForm(t *testing.T) {
	for _, end := range ends {
		for _, s := range []string{
			",", ",a", "a,b", "a,", ",,", "é,€", "\xff,", "\x00,", mark + ",",
			`a"`, `a"b`, `a"b"`, `a""`, `a""b`, ` "a"`, "\xff\"", "\x00\"", mark + `"a"`,
			"\r", "\ra", "a\rb", "a\r", "\n", "\na", "a\nb", "a\n", "\r\n", "\n\r", "a\r\nb", "\xff\r", "\x00\n",
			`,"a"`, "\n\"a\"", "\r\"", `a,"b"`, "a,b\n",
		} {
			wantError(t, comma(end), s, api.ErrForm)
		}
		d := api.Dialect{Delim: ';', Quote: '\'', End: end}
		for _, s := range []string{`a;b`, `;`, `it's`, `"'`, `"a'"`, ";'", "\r", "a\n"} {
			wantError(t, d, s, api.ErrForm)
		}
	}
}

// P9.1: each of a dialect's own bytes at each place of a text, in each dialect.
func TestUnquoteOwnByteAtEachPlace(t *testing.T) {
	eachDialect(func(d api.Dialect) {
		q := one(d.Quote)
		for _, b := range []string{one(d.Delim), "\r", "\n"} {
			for i := range 4 {
				s := "xyz"[:i] + b + "xyz"[i:]
				wantError(t, d, s, api.ErrForm)
				wantField(t, d, q+s+q, s, true)
			}
			wantError(t, d, b, api.ErrForm)
			wantField(t, d, q+b+q, b, true)
		}
		for i := 1; i < 3; i++ {
			wantError(t, d, "xyz"[:i]+q+"xyz"[i:], api.ErrForm)
			wantError(t, d, q+"xyz"[:i]+q+"xyz"[i:], api.ErrQuote)
			wantError(t, d, q+"xyz"[:i]+q+"xyz"[i:]+q+"x", api.ErrQuote)
			wantField(t, d, q+"xyz"[:i]+q+q+"xyz"[i:]+q, "xyz"[:i]+q+"xyz"[i:], true)
		}
		wantError(t, d, "xyz"+q, api.ErrForm)
		wantError(t, d, q+"xyz", api.ErrQuote)
		wantField(t, d, q+"xyz"+q, "xyz", true)
	})
}

// P9.1, P9.2: every byte there is, alone, at a field's beginning, in its middle, and at its end, in each dialect.
func TestEveryByte(t *testing.T) {
	eachDialect(func(d api.Dialect) {
		for b := range 256 {
			s := one(byte(b))
			for _, f := range []string{s, s + s, s + "xy", "x" + s + "y", "xy" + s, mark + s, s + mark, mark[:2] + s, mark[:1] + s + mark[2:], s + one(d.Quote), one(d.Quote) + s} {
				checkField(t, d, f)
			}
		}
	})
}

// P9.1, P9.2: in every right dialect, all short fields of its own bytes and of another one, and some others.
func TestEveryDialect(t *testing.T) {
	eachRightDialect(func(d api.Dialect) {
		eachText(own(d)+"\xc3", 2, func(f string) { checkField(t, d, f) })
		q := one(d.Quote)
		for _, f := range []string{mark, mark + "x", ",", "\"", "it's", "a;b", "\x00\x7f", "\xac\xa2\x8d\x8a", "\t", q + q + q, "x" + q + "y" + q + q + "z", mark + q} {
			checkField(t, d, f)
		}
		wantError(t, d, q, api.ErrQuote)
		wantError(t, d, q+q+q, api.ErrQuote)
		wantError(t, d, q+"\xff", api.ErrQuote)
		wantError(t, d, q+q+"\xff", api.ErrQuote)
		wantError(t, d, q+"\xff"+q+"\xff"+q, api.ErrQuote)
		wantError(t, d, "\xff"+q, api.ErrForm)
		wantError(t, d, one(d.Delim), api.ErrForm)
		wantError(t, d, "\xff"+one(d.Delim)+q, api.ErrForm)
		wantError(t, d, "\r", api.ErrForm)
		wantError(t, d, "\xff\n", api.ErrForm)
	})
}

// P9.1, P9.2: all short fields of the bytes that matter to a dialect, and of the mark's.
func TestShortFields(t *testing.T) {
	eachDialect(func(d api.Dialect) {
		eachText("x"+own(d), 5, func(f string) { checkField(t, d, f) })
		eachText(one(d.Quote)+"x", 8, func(f string) { checkField(t, d, f) })
		eachText("x"+own(d), 3, func(f string) { checkField(t, d, mark+f) })
		eachText(mark+one(d.Quote)+"\n", 4, func(f string) { checkField(t, d, f) })
	})
}

// quotedOnes is all fields of at most so many of these bytes, by the text that each one is quoted.
func quotedOnes(d api.Dialect, bytes string, most int) map[string]string {
	ones := map[string]string{}
	eachText(bytes, most, func(f string) { ones[toldQuoted(d, f)] = f })
	return ones
}

// P9.1: Unquote of all short texts: a field quoted is one that a field comes to, and no other text is.
func TestShortTexts(t *testing.T) {
	eachDialect(func(d api.Dialect) {
		for bytes, most := range map[string]int{"x" + own(d): 6, one(d.Quote) + "x": 10} {
			ones := quotedOnes(d, bytes, most-2)
			eachText(bytes, most, func(s string) {
				f, quoted := ones[s]
				switch {
				case quoted:
					wantField(t, d, s, f, true)
				case s != "" && s[0] == d.Quote:
					wantError(t, d, s, api.ErrQuote)
				case isBare(d, s):
					wantField(t, d, s, s, false)
				default:
					wantError(t, d, s, api.ErrForm)
				}
			})
		}
	})
}

// P9.1: the end of line of the dialect doesn't matter: no bare field may have either byte.
func TestEndDoesNotMatter(t *testing.T) {
	for _, d := range dialects {
		eachText("x"+own(d), 3, func(f string) {
			var texts []string
			for _, d.End = range ends {
				texts = append(texts, quote.Quoted(d, f)+quote.Written(d, f, true, true))
			}
			if texts[0] != texts[1] || texts[0] != texts[2] {
				t.Fatalf("%v: %q is written %q", d, f, texts)
			}
		})
	}
}

// lineEnds are the ends of line that a dialect knows.
func lineEnds(d api.Dialect) []string {
	return map[int][]string{api.LF: {"\n"}, api.CRLF: {"\r\n"}, api.Either: {"\n", "\r\n"}}[d.End]
}

// wantRead asks that a text is read as a table.
func wantRead(t *testing.T, d api.Dialect, s string, want ...[]string) {
	wide := api.Limits{Field: api.MaxLimit, Fields: api.MaxLimit, Records: api.MaxLimit}
	records, fault := whole.Parse(d, wide, s)
	if fault != (api.Fault{}) || !slices.EqualFunc(records, want, slices.Equal[[]string]) {
		t.Helper()
		t.Fatalf("%v: %q is read as %q, %v; want %q", d, s, records, fault, want)
	}
}

// checkRead asks that a field is read as it was: quoted, alone in its record, and as written at each place that it may have.
func checkRead(t *testing.T, d api.Dialect, f string) {
	r := []string{f}
	wantRead(t, d, quote.Quoted(d, f), r)
	wantRead(t, d, quote.Written(d, f, true, true), r)
	for _, end := range lineEnds(d) {
		q, delim := quote.Quoted(d, f), one(d.Delim)
		wantRead(t, d, q+end, r)
		wantRead(t, d, q+end+q+end+q, r, r, r)
		wantRead(t, d, q+delim+q+end, []string{f, f})
		wantRead(t, d, quote.Written(d, f, true, true)+end+quote.Written(d, f, true, false)+end, r, r)
		wantRead(t, d, quote.Written(d, f, false, true)+delim+quote.Written(d, f, false, false)+end, []string{f, f})
	}
}

// P9.1, P9.2: fields quoted, and as written, are read (layer 6) as they were.
func TestFieldsAreRead(t *testing.T) {
	eachDialect(func(d api.Dialect) {
		eachText("x"+own(d), 4, func(f string) { checkRead(t, d, f) })
		for _, f := range []string{mark, mark + "x", mark + mark, mark + one(d.Quote), "x" + mark, "é€", "\u2028", " ", "it's", "a,\"b\"", "a;b\t", "\x00\x7f", "\\", strings.Repeat(one(d.Quote), 9)} {
			checkRead(t, d, f)
		}
		for b := range 0x80 {
			checkRead(t, d, one(byte(b)))
			checkRead(t, d, "x"+one(byte(b))+"y")
		}
	})
}

// P9.1, P9.2: in every right dialect.
func TestFieldsAreReadInEveryDialect(t *testing.T) {
	eachRightDialect(func(d api.Dialect) {
		for _, f := range []string{"", "x", mark, "é", own(d), one(d.Quote), "x" + one(d.Quote) + "\r\n" + one(d.Delim)} {
			wantRead(t, d, quote.Quoted(d, f), []string{f})
			for _, end := range lineEnds(d) {
				wantRead(t, d, quote.Quoted(d, f)+end, []string{f})
				wantRead(t, d, quote.Written(d, f, true, true)+end, []string{f})
			}
		}
	})
}

// P9.1: a field that isn't UTF-8 is quoted like any other one, though no reader takes it (layer 6), quoted or bare.
func TestWrongUtf8IsNotRead(t *testing.T) {
	d := comma(api.LF)
	for _, f := range []string{"\xff", "a\x80,", "\xe2\x82"} {
		checkField(t, d, f)
		for _, s := range []string{quote.Quoted(d, f) + "\n", quote.Written(d, f, true, true) + "\n"} {
			if whole.Parses(d, s) {
				t.Errorf("%q is read", s)
			}
		}
	}
}

// randomField is of the bytes that matter, and of others, or of characters.
func randomField(r *rand.Rand, d api.Dialect) string {
	parts := []string{"x", "é", "€", mark, " ", one(d.Delim), one(d.Quote), one(d.Quote), "\r", "\n", one(byte(r.Intn(0x80)))}
	f := ""
	for range r.Intn(30) {
		f += parts[r.Intn(len(parts))]
	}
	return f
}

// P9.1, P9.2: longer fields, as chance has it (always the same).
func TestLongerFields(t *testing.T) {
	r := rand.New(rand.NewSource(91))
	eachDialect(func(d api.Dialect) {
		for range 1000 {
			f := randomField(r, d)
			checkField(t, d, f)
			checkRead(t, d, f)
			checkField(t, d, f+one(byte(r.Intn(256))))
		}
	})
}

// P1: dialects that aren't right are none of the chapter's; all the same each call ends.
func TestWrongDialects(t *testing.T) {
	bytes := []byte{0, ',', '\r', '\n', 0x7f, 0x80, 0xbb, 0xef, 0xff}
	for _, b := range bytes {
		for _, q := range bytes {
			for _, end := range []int{math.MinInt, -1, 0, 1, 4, math.MaxInt} {
				d := api.Dialect{Delim: b, Quote: q, End: end}
				for _, f := range []string{"", "a", ",", "\r\n", mark, "\xff\x00", "\xbf\xbf\xbf", "\u00ff", one(q), one(q) + one(q), one(q) + one(q) + one(q)} {
					quote.Quoted(d, f)
					quote.Unquote(d, f)
					eachPlace(func(alone, first bool) {
						quote.Written(d, f, alone, first)
						quote.Size(d, f, alone, first)
					})
				}
			}
		}
	}
}

// P1: long fields and long texts come to their end.
func TestLongFields(t *testing.T) {
	const n = 1 << 20
	d := comma(api.LF)
	long, quotes := strings.Repeat("x", n), strings.Repeat(`"`, n)
	for _, f := range []string{long, long + ",", `"` + long, long + `"` + long, quotes, quotes + `"`, long + quotes, strings.Repeat(`x"`, n), strings.Repeat("\n", n), mark + long} {
		checkField(t, d, f)
	}
	wantError(t, d, `"`+long, api.ErrQuote)
	wantError(t, d, `"`+quotes, api.ErrQuote)
	wantError(t, d, `"`+strings.Repeat(`x"`, n)+`"`, api.ErrQuote)
	wantError(t, d, long+`"`, api.ErrForm)
	wantError(t, d, long+"\r", api.ErrForm)
}

func FuzzField(f *testing.F) {
	f.Add(byte(','), byte('"'), byte(0), "a,\"b\"")
	f.Add(byte(';'), byte('\''), byte(1), "it's")
	f.Add(byte('\t'), byte(0), byte(2), mark+"\x00\xff")
	f.Fuzz(func(t *testing.T, delim, quoteByte, end byte, s string) {
		d := api.Dialect{Delim: delim & 0x7f, Quote: quoteByte & 0x7f, End: int(end%3) + 1}
		if !isRight(d) {
			return
		}
		checkField(t, d, s)
		if utf8.ValidString(s) {
			checkRead(t, d, s)
		}
		// A text that is taken back is the one that its field is written as, either way.
		field, quoted, e := quote.Unquote(d, s)
		if quoted && quote.Quoted(d, field) != s || !quoted && e == api.OK && (field != s || !isBare(d, s)) {
			t.Fatalf("Unquote(%v, %q) = %q, %v", d, s, field, quoted)
		}
	})
}
