package dialect_test

import (
	"fmt"
	"math"
	"strings"
	"testing"

	"quillpen/api"
	"quillpen/dialect"
)

// words are the ends' words, by their numbers.
var words = map[int]string{1: "lf", 2: "crlf", 3: "either"}

// ends are all that may be, those beside them, and those that are far from them.
var ends = []int{math.MinInt, -3, -2, -1, 0, 1, 2, 3, 4, 5, 257, 258, 259, 1<<32 + 1, math.MaxInt}

// eachDialect hands out every Delim with every Quote, and each of the ends.
func eachDialect(f func(api.Dialect)) {
	for delim := 0; delim < 256; delim++ {
		for quote := 0; quote < 256; quote++ {
			for _, end := range ends {
				f(api.Dialect{Delim: byte(delim), Quote: byte(quote), End: end})
			}
		}
	}
}

// right is the chapter's sentence, said without a look at the package.
func right(d api.Dialect) bool {
	for _, b := range []byte{d.Delim, d.Quote} {
		if b > 0x7f || b == 0x0a || b == 0x0d {
			return false
		}
	}
	return d.Delim != d.Quote && words[d.End] != ""
}

func spelled(d api.Dialect) string {
	return fmt.Sprintf("%02x %02x %s", d.Delim, d.Quote, words[d.End])
}

// texts are the texts of all dialects whose end is one, right or not.
func texts() map[string]api.Dialect {
	m := map[string]api.Dialect{}
	eachDialect(func(d api.Dialect) {
		if words[d.End] != "" {
			m[spelled(d)] = d
		}
	})
	return m
}

// wantParse holds what Parse answers against all the texts that there are.
func wantParse(t *testing.T, all map[string]api.Dialect, s string) {
	t.Helper()
	want, wantErr := api.Dialect{}, api.OK
	switch d, ok := all[s]; {
	case !ok:
		wantErr = api.ErrForm
	case !right(d):
		wantErr = api.ErrDialect
	default:
		want = d
	}
	if got, e := dialect.Parse(s); got != want || e != wantErr {
		t.Fatalf("Parse(%q) = %v, %d; want %v, %d", s, got, e, want, wantErr)
	}
}

// P1.1: Check, End and Text of every dialect that can be told apart from the others.
func TestEveryDialect(t *testing.T) {
	lines := map[int]string{api.LF: "\n", api.CRLF: "\r\n", api.Either: "\n"}
	eachDialect(func(d api.Dialect) {
		check, end, text := api.ErrDialect, "", ""
		if right(d) {
			check, end, text = api.OK, lines[d.End], spelled(d)
		}
		if e := dialect.Check(d); e != check {
			t.Fatalf("Check(%v) = %d; want %d", d, e, check)
		}
		if s := dialect.End(d); s != end {
			t.Fatalf("End(%v) = %q; want %q", d, s, end)
		}
		if s, e := dialect.Text(d); s != text || e != check {
			t.Fatalf("Text(%v) = %q, %d; want %q, %d", d, s, e, text, check)
		}
	})
}

// P1.1: the edges that the chapter names, written out.
func TestEdgesOfCheck(t *testing.T) {
	for _, c := range []struct {
		d    api.Dialect
		want api.Errno
	}{
		{api.Dialect{Delim: ',', Quote: '"', End: api.LF}, api.OK},
		{api.Dialect{Delim: 0, Quote: 0x7f, End: api.CRLF}, api.OK},
		{api.Dialect{Delim: 0x7f, Quote: 0, End: api.Either}, api.OK},
		{api.Dialect{Delim: 0x09, Quote: 0x0b, End: api.LF}, api.OK},
		{api.Dialect{Delim: 0x0c, Quote: 0x0e, End: api.LF}, api.OK},
		{api.Dialect{Delim: ' ', Quote: 'a', End: api.LF}, api.OK},
		{api.Dialect{Delim: 0x80, Quote: '"', End: api.LF}, api.ErrDialect},
		{api.Dialect{Delim: ',', Quote: 0x80, End: api.LF}, api.ErrDialect},
		{api.Dialect{Delim: ',', Quote: 0xff, End: api.LF}, api.ErrDialect},
		{api.Dialect{Delim: '\n', Quote: '"', End: api.CRLF}, api.ErrDialect},
		{api.Dialect{Delim: '\r', Quote: '"', End: api.LF}, api.ErrDialect},
		{api.Dialect{Delim: ',', Quote: '\n', End: api.CRLF}, api.ErrDialect},
		{api.Dialect{Delim: ',', Quote: '\r', End: api.LF}, api.ErrDialect},
		{api.Dialect{Delim: '"', Quote: '"', End: api.LF}, api.ErrDialect},
		{api.Dialect{Delim: ',', Quote: '"', End: 0}, api.ErrDialect},
		{api.Dialect{Delim: ',', Quote: '"', End: 4}, api.ErrDialect},
		{api.Dialect{Delim: ',', Quote: '"', End: -1}, api.ErrDialect},
		{api.Dialect{}, api.ErrDialect},
	} {
		if e := dialect.Check(c.d); e != c.want {
			t.Errorf("Check(%v) = %d; want %d", c.d, e, c.want)
		}
	}
}

// P1.1: each limit at its edges, with each of the others at theirs.
func TestCheckLimits(t *testing.T) {
	numbers := []int{math.MinInt, -1 << 31, -1, 0, 1, 2, 1<<31 - 1, 1 << 31, 1<<31 + 1, 1 << 32, 1<<32 + 1, math.MaxInt}
	may := map[int]bool{1: true, 2: true, 1<<31 - 1: true, 1 << 31: true}
	for _, field := range numbers {
		for _, fields := range numbers {
			for _, records := range numbers {
				for _, uniform := range []bool{false, true} {
					l := api.Limits{Field: field, Fields: fields, Records: records, Uniform: uniform}
					want := api.ErrLimits
					if may[field] && may[fields] && may[records] {
						want = api.OK
					}
					if e := dialect.CheckLimits(l); e != want {
						t.Fatalf("CheckLimits(%v) = %d; want %d", l, e, want)
					}
				}
			}
		}
	}
}

// P1.1: Wide is 2^31 of each, not uniform, and right.
func TestWide(t *testing.T) {
	want := api.Limits{Field: 2147483648, Fields: 2147483648, Records: 2147483648, Uniform: false}
	if l := dialect.Wide(); l != want || dialect.CheckLimits(l) != api.OK {
		t.Errorf("Wide() = %v; want %v", l, want)
	}
}

// P1.1: the chapter's example, and others written out.
func TestExamplesOfText(t *testing.T) {
	for want, d := range map[string]api.Dialect{
		"2c 22 crlf":   {Delim: ',', Quote: '"', End: api.CRLF},
		"3b 27 lf":     {Delim: ';', Quote: '\'', End: api.LF},
		"09 22 either": {Delim: '\t', Quote: '"', End: api.Either},
		"00 7f lf":     {Delim: 0, Quote: 0x7f, End: api.LF},
		"7f 00 crlf":   {Delim: 0x7f, Quote: 0, End: api.CRLF},
		"1a 6f either": {Delim: 0x1a, Quote: 'o', End: api.Either},
	} {
		if s, e := dialect.Text(d); s != want || e != api.OK {
			t.Errorf("Text(%v) = %q, %d; want %q", d, s, e, want)
		}
		if got, e := dialect.Parse(want); got != d || e != api.OK {
			t.Errorf("Parse(%q) = %v, %d; want %v", want, got, e, d)
		}
	}
}

// P1.2: Parse of Text is the dialect, for every dialect that is right.
func TestParseOfText(t *testing.T) {
	count := 0
	eachDialect(func(d api.Dialect) {
		s, e := dialect.Text(d)
		if !right(d) {
			return
		}
		count++
		if e != api.OK {
			t.Fatalf("Text(%v): %d", d, e)
		}
		if got, e := dialect.Parse(s); got != d || e != api.OK {
			t.Fatalf("Parse(%q) = %v, %d; want %v", s, got, e, d)
		}
	})
	// 126 bytes may be a Delim, each with 125 others as a Quote, and 3 ends.
	if count != 126*125*3 {
		t.Errorf("%d dialects are right", count)
	}
}

// P1.1: the text of every dialect that isn't right is one all the same: ErrDialect, not ErrForm.
func TestParseOfEveryText(t *testing.T) {
	all := texts()
	for s := range all {
		wantParse(t, all, s)
	}
}

// P1.1: texts that are nearly a dialect's: a byte changed, gone, or put in.
func TestParseOfTextsBeside(t *testing.T) {
	all := texts()
	for _, s := range []string{"2c 22 lf", "2c 22 crlf", "2c 22 either", "0a 22 lf", "09 7f crlf", "2c 80 either", "aa ff lf", "00 00 lf"} {
		for i := 0; i <= len(s); i++ {
			wantParse(t, all, s[:i])
			wantParse(t, all, s[i:])
			for b := 0; b < 256; b++ {
				put := string([]byte{byte(b)})
				wantParse(t, all, s[:i]+put+s[i:])
				if i < len(s) {
					wantParse(t, all, s[:i]+put+s[i+1:])
				}
			}
			if i < len(s) {
				wantParse(t, all, s[:i]+s[i+1:])
			}
		}
	}
}

// P1.1: wrong texts, written out; with an error the dialect is the zero value.
func TestParseOfWrongTexts(t *testing.T) {
	for s, want := range map[string]api.Errno{
		"":                     api.ErrForm,
		" ":                    api.ErrForm,
		"  ":                   api.ErrForm,
		"2c":                   api.ErrForm,
		"2c 22":                api.ErrForm,
		"2c 22 ":               api.ErrForm,
		"2c 22 LF":             api.ErrForm,
		"2c 22 1":              api.ErrForm,
		"2c 22 cr":             api.ErrForm,
		"2c 22 lflf":           api.ErrForm,
		"2c 22 lf\n":           api.ErrForm,
		"2c 22 lf ":            api.ErrForm,
		" 2c 22 lf":            api.ErrForm,
		"2c  22 lf":            api.ErrForm,
		"2c 22  lf":            api.ErrForm,
		"2c\t22 lf":            api.ErrForm,
		"2c 22\tlf":            api.ErrForm,
		"2C 22 lf":             api.ErrForm,
		"2c 2A lf":             api.ErrForm,
		"g0 22 lf":             api.ErrForm,
		"0g 22 lf":             api.ErrForm,
		"2c g0 lf":             api.ErrForm,
		"2c 0g lf":             api.ErrForm,
		"2c -1 lf":             api.ErrForm,
		"2c +1 lf":             api.ErrForm,
		"c 22 lf":              api.ErrForm,
		"02c 22 lf":            api.ErrForm,
		", \" lf":              api.ErrForm,
		"22 lf":                api.ErrForm,
		"\x00\x00\x00":         api.ErrForm,
		"\xff\xfe\xfd":         api.ErrForm,
		"2c 22 l\xc3\xa9":      api.ErrForm,
		"\xef\xbb\xbf2c 22 lf": api.ErrForm,
		// No text at all comes ahead of a dialect that isn't right.
		"80 80 cr":     api.ErrForm,
		"2c 2c cr":     api.ErrForm,
		"0a 0a":        api.ErrForm,
		"2c 2c lf":     api.ErrDialect,
		"0a 22 lf":     api.ErrDialect,
		"2c 0d crlf":   api.ErrDialect,
		"80 22 lf":     api.ErrDialect,
		"2c 80 either": api.ErrDialect,
		"ff ff lf":     api.ErrDialect,
	} {
		if d, e := dialect.Parse(s); d != (api.Dialect{}) || e != want {
			t.Errorf("Parse(%q) = %v, %d; want %d", s, d, e, want)
		}
	}
}

// P1: texts of whatever bytes and of any length neither panic nor pass.
func TestParseOfAnyBytes(t *testing.T) {
	all := texts()
	for a := 0; a < 256; a++ {
		for b := 0; b < 256; b++ {
			wantParse(t, all, string([]byte{byte(a), byte(b)}))
			wantParse(t, all, string([]byte{byte(a), '2', ' ', '2', byte(b), ' ', 'l', 'f'}))
			wantParse(t, all, string([]byte{'2', byte(a), ' ', byte(b), '2', ' ', 'l', 'f'}))
		}
	}
	for n := 0; n < 40; n++ {
		for _, s := range []string{" ", "0", "2c ", "2c 22 lf", "\xff", "\x00"} {
			long := strings.Repeat(s, n)
			wantParse(t, all, long)
			wantParse(t, all, "2c 22 "+long)
		}
	}
	wantParse(t, all, "2c 22 lf"+strings.Repeat(" ", 1<<20))
}

func FuzzParse(f *testing.F) {
	all := texts()
	for _, s := range []string{"", "2c 22 lf", "00 7f either", "2c 2c crlf", "2c 22 cr", "\xff"} {
		f.Add(s)
	}
	f.Fuzz(func(t *testing.T, s string) { wantParse(t, all, s) })
}
