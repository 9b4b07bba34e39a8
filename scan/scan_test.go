package scan_test

import (
	"math"
	"slices"
	"strings"
	"testing"

	"quillpen/api"
	"quillpen/scan"
)

// table is the chapter's: the state; the Quote, the Delim, a carriage return, a line feed, any other byte.
const table = `
Start   | Begin; Quoted | Begin, Field; First | Blank         | Start               | Begin, Add; Bare
First   | Quoted        | Field; First        | Line; Pending | Line, Record; Start | Add; Bare
Bare    | ErrQuote      | Field; First        | Line; Pending | Line, Record; Start | Add; Bare
Quoted  | Closing       | Add; Quoted         | Add; Quoted   | Add; Quoted         | Add; Quoted
Closing | Add; Quoted   | Field; First        | Line; Pending | Line, Record; Start | ErrAfter
Pending | ErrEnd        | ErrEnd              | ErrEnd        | Record; Start       | ErrEnd
Blank   | ErrEnd        | ErrEnd              | ErrEnd        | Start               | ErrEnd
`

// atEnd is what the end comes to, by the states' numbers.
var atEnd = []string{"", "Line, Record", "Line, Record", "ErrOpen", "Line, Record", "ErrEnd", "ErrEnd"}

// states are the states' words, by their numbers.
var states = []string{"Start", "First", "Bare", "Quoted", "Closing", "Pending", "Blank"}

var errnos = map[string]api.Errno{"ErrQuote": 4, "ErrAfter": 5, "ErrEnd": 6, "ErrOpen": 11}

// dialects are right ones: usual ones, bytes that other things than text hold, letters, and ones beside the ends of line.
var dialects = []api.Dialect{
	{Delim: ',', Quote: '"'},
	{Delim: ';', Quote: '\''},
	{Delim: '\t', Quote: 0},
	{Delim: 0, Quote: 0x7f},
	{Delim: 'a', Quote: 'b'},
	{Delim: '"', Quote: ','},
	{Delim: 0x0b, Quote: 0x0c},
	{Delim: 0x09, Quote: 0x0e},
}

// eachDialect hands out each of them with each end.
func eachDialect(f func(api.Dialect)) {
	for _, d := range dialects {
		for _, end := range []int{api.LF, api.CRLF, api.Either} {
			d.End = end
			f(d)
		}
	}
}

// places are the table's, by the states' numbers and the columns'.
func places() [][]string {
	var all [][]string
	for _, line := range strings.Split(strings.TrimSpace(table), "\n") {
		row := strings.Split(line, "|")[1:]
		for i := range row {
			row[i] = strings.TrimSpace(row[i])
		}
		all = append(all, row)
	}
	return all
}

var wanted = places()

// column is where in the table a byte stands.
func column(d api.Dialect, b byte) int {
	return slices.Index([]bool{b == d.Quote, b == d.Delim, b == '\r', b == '\n', true}, true)
}

// event is the one of some words.
func event(words string, b byte) scan.Event {
	e := scan.Event{}
	for _, word := range strings.Split(words, ", ") {
		switch word {
		case "Begin":
			e.Begin = true
		case "Add":
			e.Add, e.B = true, b
		case "Field":
			e.Field = true
		case "Line":
			e.Line = true
		case "Record":
			e.Record = true
		}
	}
	return e
}

// wantStep is Step by the table and the sentence below it.
func wantStep(d api.Dialect, state int, b byte) (scan.Event, int, api.Errno) {
	if slices.Contains([]string{"Start", "First", "Bare", "Closing"}, states[state]) {
		if b == '\r' && d.End == api.LF || b == '\n' && d.End == api.CRLF {
			return scan.Event{}, 0, api.ErrEnd
		}
	}
	place := wanted[state][column(d, b)]
	if e, ok := errnos[place]; ok {
		return scan.Event{}, 0, e
	}
	words, next, both := strings.Cut(place, "; ")
	if !both {
		words, next = "", place
	}
	return event(words, b), slices.Index(states, next), api.OK
}

func wantClose(state int) (scan.Event, api.Errno) {
	if e, ok := errnos[atEnd[state]]; ok {
		return scan.Event{}, e
	}
	return event(atEnd[state], 0), api.OK
}

// wantRun is Run by the table.
func wantRun(d api.Dialect, s string) ([]scan.Event, api.Fault) {
	var events []scan.Event
	state := 0
	for i := 0; i < len(s); i++ {
		event, next, e := wantStep(d, state, s[i])
		if e != api.OK {
			return events, api.Fault{Kind: e, At: i}
		}
		events, state = append(events, event), next
	}
	event, e := wantClose(state)
	if e != api.OK {
		return events, api.Fault{Kind: e, At: len(s)}
	}
	return append(events, event), api.Fault{}
}

// checkRun holds Run of a text against the table.
func checkRun(t *testing.T, d api.Dialect, s string) {
	t.Helper()
	events, f := scan.Run(d, s)
	wantEvents, wantFault := wantRun(d, s)
	if !slices.Equal(events, wantEvents) || f != wantFault {
		t.Fatalf("Run(%v, %q) = %v, %v; want %v, %v", d, s, events, f, wantEvents, wantFault)
	}
}

// eachText hands out every text of at most so many of these bytes.
func eachText(bytes []byte, most int, f func(string)) {
	var add func(s string)
	add = func(s string) {
		f(s)
		if len(s) == most {
			return
		}
		for _, b := range bytes {
			add(s + string([]byte{b}))
		}
	}
	add("")
}

// P4.1: the states' numbers.
func TestStates(t *testing.T) {
	got := []int{scan.Start, scan.First, scan.Bare, scan.Quoted, scan.Closing, scan.Pending, scan.Blank}
	if !slices.Equal(got, []int{0, 1, 2, 3, 4, 5, 6}) {
		t.Error(got)
	}
}

// P4.1: each place of the table, with every byte there is, in each dialect.
func TestStepOfEverything(t *testing.T) {
	eachDialect(func(d api.Dialect) {
		for state := range states {
			for b := 0; b < 256; b++ {
				event, next, e := scan.Step(d, state, byte(b))
				wantEvent, wantNext, wantErr := wantStep(d, state, byte(b))
				if event != wantEvent || next != wantNext || e != wantErr {
					t.Errorf("Step(%v, %s, %02x) = %v, %d, %d; want %v, %d, %d", d, states[state], b, event, next, e, wantEvent, wantNext, wantErr)
				}
			}
		}
	})
}

// P4.1: each state with the five sorts of bytes under each End, written out, so that it doesn't hang on the table's being read right.
func TestStepWrittenOut(t *testing.T) {
	nothing, record := scan.Event{}, scan.Event{Record: true}
	begin, field, line, ends := scan.Event{Begin: true}, scan.Event{Field: true}, scan.Event{Line: true}, scan.Event{Line: true, Record: true}
	add := func(b byte) scan.Event { return scan.Event{Add: true, B: b} }
	type place struct {
		event scan.Event
		next  int
		e     api.Errno
	}
	wrong := func(e api.Errno) place { return place{e: e} }
	const bytes = "\",\r\nx"
	for state, row := range [][5]place{
		{{begin, 3, 0}, {scan.Event{Begin: true, Field: true}, 1, 0}, {nothing, 6, 0}, {nothing, 0, 0}, {scan.Event{Begin: true, Add: true, B: 'x'}, 2, 0}},
		{{nothing, 3, 0}, {field, 1, 0}, {line, 5, 0}, {ends, 0, 0}, {add('x'), 2, 0}},
		{wrong(4), {field, 1, 0}, {line, 5, 0}, {ends, 0, 0}, {add('x'), 2, 0}},
		{{nothing, 4, 0}, {add(','), 3, 0}, {add('\r'), 3, 0}, {add('\n'), 3, 0}, {add('x'), 3, 0}},
		{{add('"'), 3, 0}, {field, 1, 0}, {line, 5, 0}, {ends, 0, 0}, wrong(5)},
		{wrong(6), wrong(6), wrong(6), {record, 0, 0}, wrong(6)},
		{wrong(6), wrong(6), wrong(6), {nothing, 0, 0}, wrong(6)},
	} {
		for i, want := range row {
			for _, end := range []int{api.LF, api.CRLF, api.Either} {
				if ahead := state < 3 || state == 4; ahead && (end == api.LF && bytes[i] == '\r' || end == api.CRLF && bytes[i] == '\n') {
					want = wrong(6)
				} else {
					want = row[i]
				}
				event, next, e := scan.Step(api.Dialect{Delim: ',', Quote: '"', End: end}, state, bytes[i])
				if event != want.event || next != want.next || e != want.e {
					t.Errorf("End %d: Step(%s, %q) = %v, %d, %d; want %v", end, states[state], bytes[i], event, next, e, want)
				}
			}
		}
	}
}

// P4.1: Close of each state.
func TestClose(t *testing.T) {
	for state, want := range []struct {
		event scan.Event
		e     api.Errno
	}{
		{},
		{event: scan.Event{Line: true, Record: true}},
		{event: scan.Event{Line: true, Record: true}},
		{e: api.ErrOpen},
		{event: scan.Event{Line: true, Record: true}},
		{e: api.ErrEnd},
		{e: api.ErrEnd},
	} {
		if event, e := scan.Close(state); event != want.event || e != want.e {
			t.Errorf("Close(%s) = %v, %d; want %v, %d", states[state], event, e, want.event, want.e)
		}
	}
}

// tell is an event, told in letters: B begin, a add, f field, l line, r record, . nothing.
func tell(e scan.Event) string {
	s := ""
	for i, is := range []bool{e.Begin, e.Add, e.Field, e.Line, e.Record} {
		if is {
			s += "Baflr"[i : i+1]
		}
	}
	if s == "" {
		return "."
	}
	return s
}

// P4.1: Run, written out: ordinary texts, the empty one, texts that end in each state, and texts with an error at
// the first byte, in the middle, at the last byte and at the end.
func TestRunWrittenOut(t *testing.T) {
	for _, c := range []struct {
		end    int
		s      string
		events string
		fault  api.Fault
	}{
		{api.LF, "a,\"b\"\"c\"\n", "Ba f . a . a a . lr .", api.Fault{}},
		{api.CRLF, "a,b\r\n1,2\r\n", "Ba f a l r Ba f a l r .", api.Fault{}},
		{api.Either, "a\r\nb\nc", "Ba l r Ba lr Ba lr", api.Fault{}},
		{api.LF, "", ".", api.Fault{}},
		{api.CRLF, "", ".", api.Fault{}},
		{api.Either, "", ".", api.Fault{}},
		{api.LF, "\n", ". .", api.Fault{}},
		{api.CRLF, "\r\n", ". . .", api.Fault{}},
		// The end in First, Bare, Closing, and in Start behind a record.
		{api.LF, ",", "Bf lr", api.Fault{}},
		{api.LF, "a,", "Ba f lr", api.Fault{}},
		{api.LF, "ab", "Ba a lr", api.Fault{}},
		{api.LF, "\"\"", "B . lr", api.Fault{}},
		{api.LF, "a\n", "Ba lr .", api.Fault{}},
		{api.LF, "\"\"\n", "B . lr .", api.Fault{}},
		// In Quoted, Pending and Blank it is an error.
		{api.LF, "\"", "B", api.Fault{Kind: api.ErrOpen, At: 1}},
		{api.LF, "a\n\"b\"\"", "Ba lr B a . a", api.Fault{Kind: api.ErrOpen, At: 6}},
		{api.CRLF, "a\r", "Ba l", api.Fault{Kind: api.ErrEnd, At: 2}},
		{api.Either, "a\n\r", "Ba lr .", api.Fault{Kind: api.ErrEnd, At: 3}},
		// At the first byte.
		{api.LF, "\ra", "", api.Fault{Kind: api.ErrEnd, At: 0}},
		{api.CRLF, "\na", "", api.Fault{Kind: api.ErrEnd, At: 0}},
		// In the middle.
		{api.LF, "ab\"c\"", "Ba a", api.Fault{Kind: api.ErrQuote, At: 2}},
		{api.LF, "\"a\" ,b", "B a .", api.Fault{Kind: api.ErrAfter, At: 3}},
		{api.LF, "a,\r\n", "Ba f", api.Fault{Kind: api.ErrEnd, At: 2}},
		{api.CRLF, "a\r\n\r\r\n", "Ba l r .", api.Fault{Kind: api.ErrEnd, At: 4}},
		{api.Either, "a\r\"b\"", "Ba l", api.Fault{Kind: api.ErrEnd, At: 2}},
		{api.Either, "\r,b", ".", api.Fault{Kind: api.ErrEnd, At: 1}},
		// At the last byte.
		{api.LF, "a,b\"", "Ba f a", api.Fault{Kind: api.ErrQuote, At: 3}},
		{api.LF, "\"\"\"\"a", "B . a .", api.Fault{Kind: api.ErrAfter, At: 4}},
		{api.CRLF, "a,\n", "Ba f", api.Fault{Kind: api.ErrEnd, At: 2}},
		{api.CRLF, "\"a\"\n", "B a .", api.Fault{Kind: api.ErrEnd, At: 3}},
		// Within quotes all ends of line are bytes of the field, and the first error alone counts.
		{api.LF, "\"\r\n\r\",\"\n\"", "B a a a . f . a . lr", api.Fault{}},
		{api.LF, "a\"\r\"", "Ba", api.Fault{Kind: api.ErrQuote, At: 1}},
	} {
		d := api.Dialect{Delim: ',', Quote: '"', End: c.end}
		events, f := scan.Run(d, c.s)
		var told []string
		for _, e := range events {
			told = append(told, tell(e))
		}
		if got := strings.Join(told, " "); got != c.events || f != c.fault {
			t.Errorf("End %d: Run(%q) = %s, %v; want %s, %v", c.end, c.s, got, f, c.events, c.fault)
		}
		for i, e := range events {
			want := byte(0)
			if e.Add {
				want = c.s[i]
			}
			if e.B != want {
				t.Errorf("End %d: Run(%q): byte %d is %02x; want %02x", c.end, c.s, i, e.B, want)
			}
		}
	}
}

// P4.1: the chapter's example.
func TestExampleOfTheChapter(t *testing.T) {
	events, f := scan.Run(api.Dialect{Delim: ',', Quote: '"', End: api.LF}, "a\n")
	want := []scan.Event{{Begin: true, Add: true, B: 'a'}, {Line: true, Record: true}, {}}
	if !slices.Equal(events, want) || f != (api.Fault{}) {
		t.Errorf("%v, %v", events, f)
	}
}

// P4.1: Run of every text of up to five of the bytes that matter, in each dialect.
func TestShortTexts(t *testing.T) {
	eachDialect(func(d api.Dialect) {
		eachText([]byte{d.Quote, d.Delim, '\r', '\n', 'x'}, 5, func(s string) { checkRun(t, d, s) })
	})
}

// P4.1: longer ones in usual dialects.
func TestLongerTexts(t *testing.T) {
	for _, end := range []int{api.LF, api.CRLF, api.Either} {
		d := api.Dialect{Delim: ',', Quote: '"', End: end}
		eachText([]byte{'"', ',', '\r', '\n', 'x'}, 7, func(s string) { checkRun(t, d, s) })
	}
}

// P4.1: what follows the first error changes nothing.
func TestNothingBehindAnError(t *testing.T) {
	d := api.Dialect{Delim: ',', Quote: '"', End: api.CRLF}
	eachText([]byte{'"', ',', '\r', '\n', 'x'}, 4, func(s string) {
		events, f := scan.Run(d, s)
		if f.Kind == api.OK || f.At == len(s) {
			return
		}
		for _, more := range []string{"\"", "\r\n", "x,y", "\n\n\""} {
			again, same := scan.Run(d, s+more)
			if !slices.Equal(again, events) || same != f {
				t.Fatalf("Run(%q) = %v, %v; of %q %v, %v", s+more, again, same, s, events, f)
			}
		}
	})
}

// P4.1: what is answered is new each time: writing into it changes no other answer.
func TestAnswersAreTheirOwn(t *testing.T) {
	d := api.Dialect{Delim: ',', Quote: '"', End: api.LF}
	for _, s := range []string{"", "a,b\n", "\"a", "a\"", "\r"} {
		one, _ := scan.Run(d, s)
		for i := range one[:cap(one)] {
			one[:cap(one)][i] = scan.Event{Begin: true, Add: true, Field: true, Line: true, Record: true, B: 0xff}
		}
		checkRun(t, d, s)
	}
}

// P1: no call panics, whatever it is handed, and each ends.
func TestNoPanic(t *testing.T) {
	for _, state := range []int{math.MinInt, -1, 7, 8, 256, 1 << 32, math.MaxInt} {
		for b := 0; b < 256; b++ {
			scan.Step(api.Dialect{Delim: ',', Quote: '"', End: api.Either}, state, byte(b))
		}
		scan.Close(state)
	}
	for _, d := range []api.Dialect{{}, {Delim: '\n', Quote: '\r', End: -1}, {Delim: 0xff, Quote: 0xff, End: math.MaxInt}, {Delim: '\r', Quote: '\r', End: api.LF}} {
		eachText([]byte{0, '\r', '\n', 0xff}, 4, func(s string) { scan.Run(d, s) })
	}
}

// P1: long texts, each field of many bytes, or many fields and records.
func TestLongTexts(t *testing.T) {
	d := api.Dialect{Delim: ',', Quote: '"', End: api.Either}
	for _, s := range []string{
		strings.Repeat("x", 1<<20),
		strings.Repeat(",", 1<<20),
		strings.Repeat("\n", 1<<20),
		strings.Repeat("\"", 1<<20),
		strings.Repeat("a,\"b\"\"c\"\r\n", 1<<17),
	} {
		if events, f := scan.Run(d, s); len(events) != len(s)+1 || f != (api.Fault{}) {
			t.Errorf("%.10q: %d events, %v", s, len(events), f)
		}
	}
}

// P4.1: whatever text, whatever right dialect.
func FuzzRun(f *testing.F) {
	f.Add(byte(','), byte('"'), byte(0), "a,\"b\"\"c\"\n")
	f.Add(byte(';'), byte('\''), byte(1), "a;'b'\r\n\r\n")
	f.Add(byte('\t'), byte(0), byte(2), "\x00\r\x00\r\n")
	f.Fuzz(func(t *testing.T, delim, quote, end byte, s string) {
		d := api.Dialect{Delim: delim & 0x7f, Quote: quote & 0x7f, End: int(end%3) + 1}
		if d.Delim == d.Quote || strings.ContainsAny("\r\n", string([]byte{d.Delim, d.Quote})) {
			return
		}
		checkRun(t, d, s)
	})
}
