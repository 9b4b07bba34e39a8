package need_test

import (
	"math"
	"math/rand"
	"slices"
	"strings"
	"testing"
	"unicode/utf8"

	"quillpen/api"
	"quillpen/need"
	"quillpen/whole"
)

const mark = "\xef\xbb\xbf"

var ends = []int{api.LF, api.CRLF, api.Either}

// dialects are right ones, but for their End: usual ones, bytes that no text has, letters, and ones beside the ends of line.
var dialects = []api.Dialect{
	{Delim: ',', Quote: '"'},
	{Delim: ';', Quote: '\''},
	{Delim: '\t', Quote: 0},
	{Delim: 0, Quote: 0x7f},
	{Delim: 'a', Quote: 'b'},
	{Delim: '"', Quote: ','},
	{Delim: 0x0b, Quote: 0x0c},
	{Delim: 0x09, Quote: 0x0e},
}

// eachDialect hands out each of them with each end.
func eachDialect(f func(api.Dialect)) {
	for _, d := range dialects {
		for _, end := range ends {
			d.End = end
			f(d)
		}
	}
}

func comma(end int) api.Dialect { return api.Dialect{Delim: ',', Quote: '"', End: end} }

// one is the text of one byte.
func one(b byte) string { return string([]byte{b}) }

// told is what the chapter says of why a field must be quoted, told byte by byte.
func told(d api.Dialect, f string, alone, first bool) int {
	has := [6]bool{}
	for i := range len(f) {
		has[1] = has[1] || f[i] == d.Delim
		has[2] = has[2] || f[i] == d.Quote
		has[3] = has[3] || f[i] == 0x0d || f[i] == 0x0a
	}
	has[4] = len(f) == 0 && alone
	has[5] = len(f) >= 3 && f[0] == 0xef && f[1] == 0xbb && f[2] == 0xbf && first
	for why, holds := range has {
		if holds {
			return why
		}
	}
	return 0
}

// toldFields is of which fields of a record there is a why.
func toldFields(d api.Dialect, r []string, first bool) []bool {
	var must []bool
	for i, f := range r {
		must = append(must, told(d, f, len(r) < 2, i < 1 && first) > 0)
	}
	return must
}

// wantWhy holds Why and Need of a field against a number.
func wantWhy(t *testing.T, d api.Dialect, f string, alone, first bool, want int) {
	t.Helper()
	if n := need.Why(d, f, alone, first); n != want {
		t.Fatalf("Why(%v, %q, %v, %v) = %d; want %d", d, f, alone, first, n, want)
	}
	if must := need.Need(d, f, alone, first); must != (want != 0) {
		t.Fatalf("Need(%v, %q, %v, %v) = %v; Why is %d", d, f, alone, first, must, want)
	}
}

// eachPlace hands out all that a field's record may be.
func eachPlace(f func(alone, first bool)) {
	for _, alone := range []bool{false, true} {
		f(alone, false)
		f(alone, true)
	}
}

// wantAnywhere holds Why and Need of a field against a number that doesn't hang on its record.
func wantAnywhere(t *testing.T, d api.Dialect, f string, want int) {
	t.Helper()
	eachPlace(func(alone, first bool) { wantWhy(t, d, f, alone, first, want) })
}

// checkWhy holds Why and Need of a field, in whatever record, against the chapter.
func checkWhy(t *testing.T, d api.Dialect, f string) {
	t.Helper()
	eachPlace(func(alone, first bool) { wantWhy(t, d, f, alone, first, told(d, f, alone, first)) })
}

// wantFields holds Fields of a record against a list, twice. What is answered is overwritten each time:
// the other answer, and the record, are none the worse for it.
func wantFields(t *testing.T, d api.Dialect, r []string, first bool, want ...bool) {
	t.Helper()
	with := append(slices.Clone(r), "spare", "spare")
	given := with[:len(r)]
	for range 2 {
		got := need.Fields(d, given, first)
		if !slices.Equal(got, want) {
			t.Fatalf("Fields(%v, %q, %v) = %v; want %v", d, r, first, got, want)
		}
		got = got[:cap(got)]
		for i := range got {
			got[i] = i >= len(want) || !want[i]
		}
		if !slices.Equal(given, r) || with[len(r)] != "spare" || with[len(r)+1] != "spare" {
			t.Fatalf("Fields wrote into %q: %q", r, with)
		}
	}
}

// checkFields holds Fields of a record against the chapter.
func checkFields(t *testing.T, d api.Dialect, r []string) {
	t.Helper()
	for _, first := range []bool{false, true} {
		wantFields(t, d, r, first, toldFields(d, r, first)...)
	}
}

// eachText hands out every text of at most so many of these bytes.
func eachText(bytes string, most int, f func(string)) {
	var add func(s string)
	add = func(s string) {
		f(s)
		if len(s) == most {
			return
		}
		for i := range len(bytes) {
			add(s + bytes[i:i+1])
		}
	}
	add("")
}

// eachRecord hands out every record of at most so many of these fields, the one of none, too.
func eachRecord(fields []string, most int, f func([]string)) {
	var add func(r []string)
	add = func(r []string) {
		f(slices.Clone(r))
		if len(r) == most {
			return
		}
		for _, field := range fields {
			add(append(r[:len(r):len(r)], field))
		}
	}
	add(nil)
}

// P8.1: the chapter's examples.
func TestChaptersExamples(t *testing.T) {
	eachDialect(func(d api.Dialect) {
		wantFields(t, d, []string{""}, false, true)
		wantFields(t, d, []string{""}, true, true)
		wantFields(t, d, []string{"", ""}, false, false, false)
		wantFields(t, d, []string{"", ""}, true, false, false)
	})
}

// P8.1: fields whose number doesn't hang on their record, written out.
func TestWhyWrittenOut(t *testing.T) {
	for _, end := range ends {
		for f, want := range map[string]int{
			"a": 0, " ": 0, "quill pen": 0, "it's": 0, "a;b\t": 0, "é€": 0, "\x00": 0, "a\x00": 0, "\u2028\u0085\v\f": 0, "\\": 0,
			"\xff": 0, "\xe2\x82": 0, "\x80a": 0, "\xac": 0, "\xa2": 0, "\x8d\x8a": 0,
			",": 1, ",a": 1, "a,b": 1, "a,": 1, ",,": 1, "é,€": 1, "\xff,": 1, "\x00,": 1,
			"\"": 2, "\"a": 2, "a\"b": 2, "a\"": 2, "\"\"": 2, "\"a\"": 2, "\xff\"": 2, "\x00\"": 2,
			"\r": 3, "\ra": 3, "a\rb": 3, "a\r": 3, "\n": 3, "\na": 3, "a\nb": 3, "a\n": 3,
			"\r\n": 3, "\n\r": 3, "a\r\nb": 3, "\r\r": 3, "\xff\r": 3, "\x00\n": 3,
		} {
			wantAnywhere(t, comma(end), f, want)
		}
		d := api.Dialect{Delim: ';', Quote: '\'', End: end}
		for f, want := range map[string]int{",": 0, "\"": 0, "a,\"b\"": 0, ";": 1, "a;": 1, "'": 2, "it's": 2, "\r": 3, "\n": 3} {
			wantAnywhere(t, d, f, want)
		}
		// A nought is a byte like the others: it may part fields, or quote them.
		wantAnywhere(t, api.Dialect{Delim: 0, Quote: '"', End: end}, "a\x00", 1)
		wantAnywhere(t, api.Dialect{Delim: 0, Quote: '"', End: end}, "a", 0)
		wantAnywhere(t, api.Dialect{Delim: ',', Quote: 0, End: end}, "\x00a", 2)
		wantAnywhere(t, api.Dialect{Delim: ',', Quote: 0, End: end}, "\"", 0)
	}
}

// P8.1: the empty field: just where it is alone, in whatever record.
func TestEmptyField(t *testing.T) {
	eachDialect(func(d api.Dialect) {
		wantWhy(t, d, "", true, false, 4)
		wantWhy(t, d, "", true, true, 4)
		wantWhy(t, d, "", false, false, 0)
		wantWhy(t, d, "", false, true, 0)
		for _, f := range []string{" ", "x", "\xff", "\xef\xbb"} {
			wantAnywhere(t, d, f, 0)
		}
	})
}

// P8.1: the mark: just where all three bytes begin a text's first field.
func TestMark(t *testing.T) {
	eachDialect(func(d api.Dialect) {
		for _, f := range []string{mark, mark + "x", mark + " ", mark + mark, mark + mark[:2], mark + "é", mark + "\xff"} {
			for _, alone := range []bool{false, true} {
				wantWhy(t, d, f, alone, true, 5)
				wantWhy(t, d, f, alone, false, 0)
			}
		}
		for _, f := range []string{
			mark[:1], mark[:2], mark[1:], mark[2:], "x" + mark, " " + mark, mark[:1] + mark, mark[:2] + mark,
			mark[:1] + "x" + mark[1:], mark[:2] + "x" + mark[2:], mark[:2] + "x", "\xef\xbb\xbe", "\xef\xbf\xbb", "\xbf\xbb\xef", "\xef\xbc\xbf", "\xee\xbb\xbf",
		} {
			wantAnywhere(t, d, f, 0)
		}
	})
}

// P8.1: where several hold the first one is told, wherever in the field they are.
func TestFirstWhyIsTold(t *testing.T) {
	eachDialect(func(d api.Dialect) {
		parts := []string{"x", one(d.Delim), one(d.Quote), "\r", "\n"}
		number := []int{0, 1, 2, 3, 3}
		for i, a := range parts {
			for j, b := range parts {
				for k, c := range parts {
					want := 0
					for _, n := range []int{number[i], number[j], number[k]} {
						if want == 0 || n != 0 && n < want {
							want = n
						}
					}
					wantAnywhere(t, d, a+b+c, want)
					wantAnywhere(t, d, "x"+a+"x"+b+"x"+c+"x", want)
					if want != 0 {
						wantAnywhere(t, d, mark+a+b+c, want)
					} else {
						wantWhy(t, d, mark+a+b+c, true, true, 5)
						wantWhy(t, d, mark+a+b+c, true, false, 0)
					}
				}
			}
		}
	})
}

// P8.1: every byte there is, alone, at a field's beginning, in its middle, and at its end, in each dialect.
func TestEveryByte(t *testing.T) {
	eachDialect(func(d api.Dialect) {
		for b := range 256 {
			s := one(byte(b))
			for _, f := range []string{s, s + "xy", "x" + s + "y", "xy" + s, mark + s, s + mark, mark[:2] + s, mark[:1] + s + mark[2:], s + mark[1:]} {
				checkWhy(t, d, f)
			}
		}
	})
}

// P8.1: every right dialect knows its own bytes, and no other ones.
func TestEveryDialect(t *testing.T) {
	for delim := range 0x80 {
		for quote := range 0x80 {
			if delim == quote || strings.ContainsAny("\r\n", one(byte(delim))+one(byte(quote))) {
				continue
			}
			for _, end := range ends {
				d := api.Dialect{Delim: byte(delim), Quote: byte(quote), End: end}
				wantWhy(t, d, one(d.Delim), true, true, 1)
				wantWhy(t, d, "é"+one(d.Quote), false, false, 2)
				for _, f := range []string{",", "\"", "a;b", "it's", "\x00", "\x7f", "\xac\xa2", "\t", "\r", mark + "\n", "", mark} {
					checkWhy(t, d, f)
				}
			}
		}
	}
}

// P8.1: all short fields of the bytes that matter to a dialect, and of the mark's.
func TestShortFields(t *testing.T) {
	eachDialect(func(d api.Dialect) {
		bytes := "x\r\n" + one(d.Delim) + one(d.Quote)
		eachText(bytes, 5, func(f string) { checkWhy(t, d, f) })
		eachText(bytes, 3, func(f string) { checkWhy(t, d, mark+f) })
		eachText(mark+one(d.Delim)+"\n", 4, func(f string) { checkWhy(t, d, f) })
	})
}

// P8.1: records with which of their fields must be quoted, written out: no field, one, the empty one, the mark.
func TestFieldsWrittenOut(t *testing.T) {
	for _, end := range ends {
		d := comma(end)
		for _, first := range []bool{false, true} {
			wantFields(t, d, nil, first)
			wantFields(t, d, []string{}, first)
			wantFields(t, d, []string{"a"}, first, false)
			wantFields(t, d, []string{"a,b"}, first, true)
			wantFields(t, d, []string{"\""}, first, true)
			wantFields(t, d, []string{"\r"}, first, true)
			wantFields(t, d, []string{"\n"}, first, true)
			wantFields(t, d, []string{""}, first, true)
			wantFields(t, d, []string{"", ""}, first, false, false)
			wantFields(t, d, []string{"", "", ""}, first, false, false, false)
			wantFields(t, d, []string{"", "a"}, first, false, false)
			wantFields(t, d, []string{"a", ""}, first, false, false)
			wantFields(t, d, []string{"a", ",", "b", "\"", "c", "\r", "\n", ""}, first, false, true, false, true, false, true, true, false)
			wantFields(t, d, []string{",", "a", ","}, first, true, false, true)
			wantFields(t, d, []string{mark}, first, first)
			wantFields(t, d, []string{mark + "a"}, first, first)
			wantFields(t, d, []string{mark, mark, mark}, first, first, false, false)
			wantFields(t, d, []string{mark, ""}, first, first, false)
			wantFields(t, d, []string{"", mark}, first, false, false)
			wantFields(t, d, []string{"a", mark + "b"}, first, false, false)
			wantFields(t, d, []string{mark + ",", mark + ","}, first, true, true)
			wantFields(t, d, []string{mark[:2], mark[2:]}, first, false, false)
			wantFields(t, d, []string{"\xff", "\x00"}, first, false, false)
		}
	}
	d := api.Dialect{Delim: ';', Quote: '\'', End: api.CRLF}
	wantFields(t, d, []string{mark, "", mark, ";", ",", "it's"}, true, true, false, false, true, false, true)
}

// P8.1: every record of up to three of a dialect's fields, and of up to five of fewer.
func TestFieldsOfEveryRecord(t *testing.T) {
	eachDialect(func(d api.Dialect) {
		fields := []string{"", "x", "\xff", mark, mark + "x", mark[:2], "x" + mark, one(d.Delim), "x" + one(d.Quote), "\r", "x\n"}
		eachRecord(fields, 3, func(r []string) { checkFields(t, d, r) })
		eachRecord([]string{"", mark, one(d.Delim)}, 5, func(r []string) { checkFields(t, d, r) })
	})
}

// P8.1: what is answered stays as it was, whatever is asked later.
func TestAnswersAreTheirOwn(t *testing.T) {
	d := comma(api.LF)
	records := [][]string{{","}, {"a", "\n"}, {"", ""}, {""}, {mark, mark}, {"\"", "b", ","}}
	var answers [][]bool
	for _, r := range records {
		answers = append(answers, need.Fields(d, r, true))
	}
	for _, l := range answers {
		l = l[:cap(l)]
		for i := range l {
			l[i] = !l[i]
		}
	}
	for i, r := range records {
		want := toldFields(d, r, true)
		for k := range want {
			if answers[i][k] == want[k] {
				t.Errorf("what is answered of %q shares its memory: %v", r, answers[i])
			}
		}
		wantFields(t, d, r, true, want...)
	}
}

// P8.1: the record isn't looked at behind the call: what is answered stays, whatever becomes of it.
func TestRecordIsNotKept(t *testing.T) {
	d := comma(api.LF)
	r := []string{",", "a", mark}
	l := need.Fields(d, r, true)
	copy(r, []string{"a", ",", "\n"})
	if !slices.Equal(l, []bool{true, false, false}) {
		t.Errorf("%v", l)
	}
}

// lineEnds are the ends of line that a dialect knows.
func lineEnds(d api.Dialect) []string {
	return map[int][]string{api.LF: {"\n"}, api.CRLF: {"\r\n"}, api.Either: {"\n", "\r\n"}}[d.End]
}

// bare is a record's line with no field quoted.
func bare(d api.Dialect, r []string, end string) string {
	return strings.Join(r, one(d.Delim)) + end
}

// isRead tells whether a text is read as a table.
func isRead(d api.Dialect, s string, want [][]string) bool {
	wide := api.Limits{Field: api.MaxLimit, Fields: api.MaxLimit, Records: api.MaxLimit}
	records, fault := whole.Parse(d, wide, s)
	return fault == api.Fault{} && slices.EqualFunc(records, want, slices.Equal[[]string])
}

// readBare asks that a record, laid bare, is read as it was just where none of its fields must be quoted:
// as a text's first record, and behind another one.
func readBare(t *testing.T, d api.Dialect, r []string) {
	t.Helper()
	for _, end := range lineEnds(d) {
		s := bare(d, r, end)
		if must := slices.Contains(need.Fields(d, r, true), true); isRead(d, s, [][]string{r}) == must {
			t.Fatalf("%v: Fields(%q, true) has one that must be quoted: %v; laid bare: %q", d, r, must, s)
		}
		if must := slices.Contains(need.Fields(d, r, false), true); isRead(d, "x"+end+s, [][]string{{"x"}, r}) == must {
			t.Fatalf("%v: Fields(%q, false) has one that must be quoted: %v; laid bare: %q", d, r, must, s)
		}
	}
}

// readEach asks so of each place that a field may have, among others that need not be quoted.
func readEach(t *testing.T, d api.Dialect, f string) {
	t.Helper()
	for _, r := range [][]string{{f}, {f, "x"}, {"x", f}, {"x", f, ""}, {"", f, "x"}, {f, ""}, {"", f}} {
		readBare(t, d, r)
	}
}

// P8.2: in each right dialect fields are read as they stand, if they need not be quoted, and not, if they must.
func TestReadAsItStands(t *testing.T) {
	eachDialect(func(d api.Dialect) {
		for _, f := range []string{"", "x", "xyz", " x ", "é€", "\u2028", "\\", mark, mark + "x", mark + mark, "x" + mark, ",", "\"", "\"x\"", ";", "it's", "\t", "\x00", "\x7f", "\v", "\f", "\x0e", "a", "b", "ab", "\r", "\n", "\r\n", "\n\r", "x\r", "x\n", "x\r\n", "\nx", "\rx", mark + "\n"} {
			readEach(t, d, f)
		}
	})
}

// P8.2: every byte that a text may have by itself, alone and among others, in each dialect.
func TestEveryByteIsReadAsItStands(t *testing.T) {
	eachDialect(func(d api.Dialect) {
		for b := range 0x80 {
			s := one(byte(b))
			for _, f := range []string{s, s + "xy", "x" + s + "y", "xy" + s, s + s, mark + s} {
				readEach(t, d, f)
			}
		}
	})
}

// P8.2: in every right dialect.
func TestEveryDialectIsReadAsItStands(t *testing.T) {
	for delim := range 0x80 {
		for quote := range 0x80 {
			if delim == quote || strings.ContainsAny("\r\nx", one(byte(delim))+one(byte(quote))) {
				continue
			}
			for _, end := range ends {
				d := api.Dialect{Delim: byte(delim), Quote: byte(quote), End: end}
				for _, r := range [][]string{{"x", "xx"}, {"", ""}, {""}, {mark + "x", mark}, {"x" + one(d.Delim)}, {"x", one(d.Quote)}, {"x\r"}, {"\n", "x"}, {",;\t", "\"'\x00\x7f"}} {
					readBare(t, d, r)
				}
			}
		}
	}
}

// P8.2: all short fields of the bytes that matter to a dialect, and records of them.
func TestShortFieldsAreReadAsTheyStand(t *testing.T) {
	eachDialect(func(d api.Dialect) {
		eachText("x\r\n"+one(d.Delim)+one(d.Quote), 4, func(f string) { readEach(t, d, f) })
		fields := []string{"", "x", "é", mark, "x" + mark, one(d.Delim), one(d.Quote), one(d.Quote) + one(d.Quote), "\r", "\n"}
		eachRecord(fields, 3, func(r []string) {
			if len(r) > 0 {
				readBare(t, d, r)
			}
		})
	})
}

// P8.2: a table of records none of whose fields must be quoted is read as it stands.
func TestTableIsReadAsItStands(t *testing.T) {
	eachDialect(func(d api.Dialect) {
		table := [][]string{{"x", mark, ""}, {mark}, {"", ""}, {mark, mark + "x"}, {"x y", "é€", "x"}, {"", "x", "", ""}}
		for _, end := range lineEnds(d) {
			s := ""
			for i, r := range table {
				if slices.Contains(need.Fields(d, r, i == 0), true) {
					t.Fatalf("%v: Fields(%q): %v", d, r, need.Fields(d, r, i == 0))
				}
				s += bare(d, r, end)
			}
			if !isRead(d, s, table) {
				t.Fatalf("%v: %q isn't read as %q", d, s, table)
			}
		}
	})
}

// randomField is of the bytes that matter, and of others, or of characters.
func randomField(r *rand.Rand, d api.Dialect) string {
	parts := []string{"x", "é", "€", mark, " ", one(d.Delim), one(d.Quote), "\r", "\n", one(byte(r.Intn(0x80)))}
	// Most fields have none of those that must be quoted: else hardly any record would have none.
	usual := parts[:5]
	if r.Intn(8) == 0 {
		usual = parts
	}
	f := ""
	for range r.Intn(6) {
		f += usual[r.Intn(len(usual))]
	}
	return f
}

// P8.1, P8.2: longer records, as chance has it (always the same).
func TestLongerRecords(t *testing.T) {
	r := rand.New(rand.NewSource(81))
	eachDialect(func(d api.Dialect) {
		for range 1000 {
			record := make([]string, 1+r.Intn(8))
			for i := range record {
				record[i] = randomField(r, d)
				checkWhy(t, d, record[i])
			}
			checkFields(t, d, record)
			readBare(t, d, record)
		}
	})
}

// P1: dialects that aren't right are none of the chapter's; all the same each call ends.
func TestWrongDialects(t *testing.T) {
	for _, b := range []byte{0, ',', '\r', '\n', 0x7f, 0x80, 0xbb, 0xef, 0xff} {
		for _, q := range []byte{0, ',', '\r', '\n', 0x7f, 0x80, 0xbb, 0xef, 0xff} {
			for _, end := range []int{math.MinInt, -1, 0, 1, 4, math.MaxInt} {
				d := api.Dialect{Delim: b, Quote: q, End: end}
				for _, f := range []string{"", "a", ",", "\r\n", mark, "\xff\x00"} {
					eachPlace(func(alone, first bool) {
						if n := need.Why(d, f, alone, first); need.Need(d, f, alone, first) != (n != 0) {
							t.Errorf("Need(%v, %q, %v, %v) = %v; Why is %d", d, f, alone, first, n == 0, n)
						}
						if l := need.Fields(d, []string{f, f}, first); len(l) != 2 {
							t.Errorf("Fields(%v) of two: %v", d, l)
						}
					})
				}
			}
		}
	}
}

// P1: long fields and long records come to their end.
func TestLongFields(t *testing.T) {
	const n = 1 << 20
	d := comma(api.LF)
	long := strings.Repeat("x", n)
	for f, want := range map[string]int{long: 0, long + ",": 1, long + "\"": 2, long + "\"" + long + ",": 1, long + "\n": 3, long + "\r" + long: 3, "\r" + long + "\"": 2} {
		wantAnywhere(t, d, f, want)
	}
	wantWhy(t, d, mark+long, true, true, 5)
	wantWhy(t, d, mark+long, true, false, 0)
	r := make([]string, n)
	r[n-1] = ","
	l := need.Fields(d, r, true)
	if len(l) != n || slices.Index(l, true) != n-1 {
		t.Errorf("%d fields, the first that must be quoted at %d", len(l), slices.Index(l, true))
	}
}

func FuzzRecord(f *testing.F) {
	f.Add(byte(','), byte('"'), byte(0), "a,b", "\"", "")
	f.Add(byte(';'), byte('\''), byte(1), mark, "it's", "\r\n")
	f.Add(byte('\t'), byte(0), byte(2), "", "\x00", mark+"\xff")
	f.Fuzz(func(t *testing.T, delim, quote, end byte, a, b, c string) {
		d := api.Dialect{Delim: delim & 0x7f, Quote: quote & 0x7f, End: int(end%3) + 1}
		// The x is that of the line which readBare lays ahead.
		if d.Delim == d.Quote || strings.ContainsAny("\r\nx", one(d.Delim)+one(d.Quote)) {
			return
		}
		for _, r := range [][]string{{a}, {a, b}, {a, b, c}} {
			for _, field := range r {
				checkWhy(t, d, field)
			}
			checkFields(t, d, r)
			if utf8.ValidString(strings.Join(r, ",")) {
				readBare(t, d, r)
			}
		}
	})
}
