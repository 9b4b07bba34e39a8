package fields_test

import (
	"fmt"
	"math"
	"math/rand"
	"slices"
	"strings"
	"testing"

	"quillpen/api"
	"quillpen/fields"
	"quillpen/scan"
)

// event is the one of some letters: B Begin, +x Add of x, F Field, L Line, R Record.
// Where nothing is added B holds a byte all the same, which nobody may take.
func event(letters string) scan.Event {
	e := scan.Event{B: '#'}
	for i := 0; i < len(letters); i++ {
		switch letters[i] {
		case 'B':
			e.Begin = true
		case '+':
			i++
			e.Add, e.B = true, letters[i]
		case 'F':
			e.Field = true
		case 'L':
			e.Line = true
		case 'R':
			e.Record = true
		default:
			panic(letters)
		}
	}
	return e
}

// events are those of words of letters.
func events(words string) []scan.Event {
	var all []scan.Event
	for _, word := range strings.Fields(words) {
		all = append(all, event(word))
	}
	return all
}

// part is one part of an event, by its letter.
type part struct {
	letter rune
	b      byte
}

// parts are those that an event has, in the chapter's order.
func parts(e scan.Event) []part {
	var all []part
	for i, has := range []bool{e.Begin, e.Add, e.Field, e.Line, e.Record} {
		if has {
			all = append(all, part{rune("B+FLR"[i]), e.B})
		}
	}
	return all
}

// told is what the chapter says of a maker behind some events: all that it has handed
// out, what it gathers, its error, and whether the last event handed a record out.
type told struct {
	l      api.Limits
	begun  int
	out    [][]string
	record []string
	field  string
	e      api.Errno
	handed bool
}

// behind is what is told behind one event more.
func (s told) behind(e scan.Event) told {
	s.handed = false
	for _, p := range parts(e) {
		if s.e == api.OK {
			s = s.with(p)
		}
	}
	return s
}

// with is what is told when a part is done.
func (s told) with(p part) told {
	switch p.letter {
	case 'B':
		if s.begun == s.l.Records {
			s.e = api.ErrRecords
			return s
		}
		s.begun++
	case '+':
		if len(s.field) == s.l.Field {
			s.e = api.ErrField
			return s
		}
		s.field += string([]byte{p.b})
	case 'F':
		s.record, s.field = slices.Concat(s.record, []string{s.field}), ""
		if len(s.record) >= s.l.Fields {
			s.e = api.ErrFields
		} else if s.l.Uniform && len(s.out) > 0 && len(s.record) == len(s.out[0]) {
			s.e = api.ErrWidth
		}
	case 'L':
		s.record, s.field = slices.Concat(s.record, []string{s.field}), ""
		if s.l.Uniform && len(s.out) > 0 && len(s.record) != len(s.out[0]) {
			s.e = api.ErrWidth
		}
	case 'R':
		s.out, s.record, s.handed = slices.Concat(s.out, [][]string{s.record}), nil, true
	}
	return s
}

// asked is a maker with what the chapter says of it by now, and what it was handed.
type asked struct {
	*fields.Maker
	t    *testing.T
	want told
	fed  []scan.Event
}

func newAsked(t *testing.T, l api.Limits) *asked {
	t.Helper()
	m, e := fields.New(l)
	if m == nil || e != api.OK {
		t.Fatalf("New(%v) = %v, %d", l, m, e)
	}
	a := &asked{Maker: m, t: t, want: told{l: l}}
	a.wantState()
	return a
}

func (a *asked) fatalf(format string, args ...any) {
	a.t.Helper()
	a.t.Fatalf("%v, %v: %s", a.want.l, a.fed, fmt.Sprintf(format, args...))
}

// take hands in an event, and holds its answer and all that is to be seen behind it
// against the chapter. What is handed out is overwritten.
func (a *asked) take(e scan.Event) {
	a.t.Helper()
	a.fed = append(a.fed, e)
	a.want = a.want.behind(e)
	record, ok, err := a.Take(e)
	var want []string
	if a.want.handed {
		want = a.want.out[len(a.want.out)-1]
	}
	if !slices.Equal(record, want) || ok != a.want.handed || err != a.want.e {
		a.fatalf("Take = %q, %v, %d; want %q, %v, %d", record, ok, err, want, a.want.handed, a.want.e)
	}
	spoil(record)
	a.wantState()
}

// wantState holds Open, Begun, Count and Stopped against the chapter. It asks twice, and
// overwrites what Open tells, so that a maker that looks there is told by what it tells next.
func (a *asked) wantState() {
	a.t.Helper()
	for range 2 {
		record, field := a.Open()
		if !slices.Equal(record, a.want.record) || field != a.want.field {
			a.fatalf("Open() = %q, %q; want %q, %q", record, field, a.want.record, a.want.field)
		}
		spoil(record)
		if a.Begun() != a.want.begun || a.Count() != len(a.want.out) || a.Stopped() != a.want.e {
			a.fatalf("Begun() = %d, Count() = %d, Stopped() = %d; want %d, %d, %d",
				a.Begun(), a.Count(), a.Stopped(), a.want.begun, len(a.want.out), a.want.e)
		}
	}
}

// spoil overwrites all the memory that a list reaches.
func spoil(l []string) {
	l = l[:cap(l)]
	for i := range l {
		l[i] = "spoilt"
	}
}

// wantEvents holds all of a maker of these limits that is handed these events against the chapter.
func wantEvents(t *testing.T, l api.Limits, all []scan.Event) {
	t.Helper()
	a := newAsked(t, l)
	for _, e := range all {
		a.take(e)
	}
}

// everyEvent is every event there is, but for B.
func everyEvent() []scan.Event {
	var all []scan.Event
	for i := range 32 {
		all = append(all, scan.Event{Begin: i&1 > 0, Add: i&2 > 0, Field: i&4 > 0, Line: i&8 > 0, Record: i&16 > 0})
	}
	return all
}

// eachList hands out every list of so many of these events. Each place has a byte of its own.
func eachList(from []scan.Event, length int, f func([]scan.Event)) {
	var add func(l []scan.Event)
	add = func(l []scan.Event) {
		if len(l) == length {
			f(l)
			return
		}
		for _, e := range from {
			e.B = byte('a' + len(l))
			add(append(l, e))
		}
	}
	add(make([]scan.Event, 0, length))
}

// eachNarrow hands out all limits up to these numbers.
func eachNarrow(field, fields, records int, f func(api.Limits)) {
	for i := range field * fields * records {
		l := api.Limits{Field: 1 + i%field, Fields: 1 + i/field%fields, Records: 1 + i/field/fields}
		f(l)
		l.Uniform = true
		f(l)
	}
}

// roomy are limits that none of the short tests comes to.
var roomy = api.Limits{Field: 1000, Fields: 1000, Records: 1000}

func uniform(l api.Limits) api.Limits {
	l.Uniform = true
	return l
}

// P5.1: New of right limits, at their edges.
func TestNew(t *testing.T) {
	numbers := []int{1, 2, 1000, api.MaxLimit - 1, api.MaxLimit}
	for _, field := range numbers {
		for _, most := range numbers {
			for _, records := range numbers {
				l := api.Limits{Field: field, Fields: most, Records: records}
				for _, l := range []api.Limits{l, uniform(l)} {
					a := newAsked(t, l)
					a.take(event("B+a"))
				}
			}
		}
	}
}

// P5.1: New of wrong limits: each one of the three, and all of them.
func TestNewOfWrongLimits(t *testing.T) {
	for _, n := range []int{0, -1, math.MinInt, math.MinInt32, api.MaxLimit + 1, 1 << 32, 1<<32 + 1, math.MaxInt} {
		for _, l := range []api.Limits{
			{Field: n, Fields: 1, Records: 1},
			{Field: 1, Fields: n, Records: 1},
			{Field: 1, Fields: 1, Records: n},
			{Field: n, Fields: n, Records: n},
		} {
			for _, l := range []api.Limits{l, uniform(l)} {
				if m, e := fields.New(l); m != nil || e != api.ErrLimits {
					t.Errorf("New(%v) = %v, %d; want nil, ErrLimits", l, m, e)
				}
			}
		}
	}
}

// step is an event by its letters, and what is to be seen behind it, as %q writes it:
// the record that is handed out (or nothing), the record's fields and the field by now.
type step struct {
	letters      string
	handed       string
	record       string
	field        string
	begun, count int
	e            api.Errno
}

// narrow are limits that are three different numbers, so that none passes for another.
var narrow = api.Limits{Field: 3, Fields: 2, Records: 1}

// written are limits, and events with their answers, written out, so that nothing hangs on told.
var written = []struct {
	name  string
	l     api.Limits
	steps []step
}{
	{"the chapter's example", api.Limits{Field: 2, Fields: 9, Records: 9}, []step{
		{"B+a", ``, `[]`, `a`, 1, 0, api.OK},
		{"+b", ``, `[]`, `ab`, 1, 0, api.OK},
		{"+c", ``, `[]`, `ab`, 1, 0, api.ErrField},
	}},
	{"nothing", narrow, []step{{"", ``, `[]`, ``, 0, 0, api.OK}}},
	{"Begin alone", narrow, []step{
		{"B", ``, `[]`, ``, 1, 0, api.OK},
		{"B", ``, `[]`, ``, 1, 0, api.ErrRecords},
	}},
	{"Add alone", narrow, []step{
		{"+a", ``, `[]`, `a`, 0, 0, api.OK},
		{"+\x00", ``, `[]`, "a\x00", 0, 0, api.OK},
		{"+\xff", ``, `[]`, "a\x00\xff", 0, 0, api.OK},
		{"+b", ``, `[]`, "a\x00\xff", 0, 0, api.ErrField},
	}},
	{"Field alone", narrow, []step{
		{"F", ``, `[""]`, ``, 0, 0, api.OK},
		{"F", ``, `["" ""]`, ``, 0, 0, api.ErrFields},
	}},
	{"Line alone: it asks for no room", narrow, []step{
		{"L", ``, `[""]`, ``, 0, 0, api.OK},
		{"L", ``, `["" ""]`, ``, 0, 0, api.OK},
		{"L", ``, `["" "" ""]`, ``, 0, 0, api.OK},
	}},
	{"Record alone: a record without fields", narrow, []step{
		{"R", `[]`, `[]`, ``, 0, 1, api.OK},
		{"R", `[]`, `[]`, ``, 0, 2, api.OK},
	}},
	{"Record leaves the field", roomy, []step{
		{"+a", ``, `[]`, `a`, 0, 0, api.OK},
		{"R", `[]`, `[]`, `a`, 0, 1, api.OK},
		{"+b", ``, `[]`, `ab`, 0, 1, api.OK},
		{"L", ``, `["ab"]`, ``, 0, 1, api.OK},
		{"R", `["ab"]`, `[]`, ``, 0, 2, api.OK},
	}},
	{"all at once, in order", roomy, []step{
		{"B+aFLR", `["a" ""]`, `[]`, ``, 1, 1, api.OK},
		{"+bFLR", `["b" ""]`, `[]`, ``, 1, 2, api.OK},
		{"+cLR", `["c"]`, `[]`, ``, 1, 3, api.OK},
		{"+dFR", `["d"]`, `[]`, ``, 1, 4, api.OK},
		{"+eR", `[]`, `[]`, `e`, 1, 5, api.OK},
		{"BR", `[]`, `[]`, `e`, 2, 6, api.OK},
		{"FL", ``, `["e" ""]`, ``, 2, 6, api.OK},
	}},
	{"ErrRecords ends the event ahead of all else", narrow, []step{
		{"B+aL", ``, `["a"]`, ``, 1, 0, api.OK},
		{"B+bFLR", ``, `["a"]`, ``, 1, 0, api.ErrRecords},
	}},
	{"ErrField ends the event behind Begin", api.Limits{Field: 1, Fields: 9, Records: 9}, []step{
		{"+a", ``, `[]`, `a`, 0, 0, api.OK},
		{"B+bFLR", ``, `[]`, `a`, 1, 0, api.ErrField},
	}},
	{"ErrFields ends the event behind Begin, Add, and the field's being put", api.Limits{Field: 9, Fields: 1, Records: 9}, []step{
		{"B+aFLR", ``, `["a"]`, ``, 1, 0, api.ErrFields},
	}},
	{"ErrFields: or more", api.Limits{Field: 9, Fields: 1, Records: 9}, []step{
		{"+aL", ``, `["a"]`, ``, 0, 0, api.OK},
		{"+bL", ``, `["a" "b"]`, ``, 0, 0, api.OK},
		{"+cF", ``, `["a" "b" "c"]`, ``, 0, 0, api.ErrFields},
	}},
	{"ErrFields ahead of ErrWidth", api.Limits{Field: 9, Fields: 1, Records: 9, Uniform: true}, []step{
		{"B+aLR", `["a"]`, `[]`, ``, 1, 1, api.OK},
		{"B+bF", ``, `["b"]`, ``, 2, 1, api.ErrFields},
	}},
	{"ErrWidth at a Field ends the event behind Begin, Add, and the field's being put", uniform(roomy), []step{
		{"B+aLR", `["a"]`, `[]`, ``, 1, 1, api.OK},
		{"B+bFLR", ``, `["b"]`, ``, 2, 1, api.ErrWidth},
	}},
	{"ErrWidth at a Line ends the event ahead of Record: too few", uniform(roomy), []step{
		{"B+aF", ``, `["a"]`, ``, 1, 0, api.OK},
		{"+bLR", `["a" "b"]`, `[]`, ``, 1, 1, api.OK},
		{"B+cLR", ``, `["c"]`, ``, 2, 1, api.ErrWidth},
	}},
	{"ErrWidth at a Line: too many", uniform(roomy), []step{
		{"BLR", `[""]`, `[]`, ``, 1, 1, api.OK},
		{"BL", ``, `[""]`, ``, 2, 1, api.OK},
		{"+aLR", ``, `["" "a"]`, ``, 2, 1, api.ErrWidth},
	}},
	{"Field and Line of one event: the second field is one too many", uniform(roomy), []step{
		{"BFLR", `["" ""]`, `[]`, ``, 1, 1, api.OK},
		{"BFLR", `["" ""]`, `[]`, ``, 2, 2, api.OK},
		{"F", ``, `[""]`, ``, 2, 2, api.OK},
		{"FLR", ``, `["" ""]`, ``, 2, 2, api.ErrWidth},
	}},
	{"just as many, not more: behind a first record without fields a Field is right, a Line is none", uniform(roomy), []step{
		{"R", `[]`, `[]`, ``, 0, 1, api.OK},
		{"R", `[]`, `[]`, ``, 0, 2, api.OK},
		{"F", ``, `[""]`, ``, 0, 2, api.OK},
		{"F", ``, `["" ""]`, ``, 0, 2, api.OK},
		{"R", `["" ""]`, `[]`, ``, 0, 3, api.OK},
		{"F", ``, `[""]`, ``, 0, 3, api.OK},
		{"L", ``, `["" ""]`, ``, 0, 3, api.ErrWidth},
	}},
	{"the first record's number of fields, not the last one's", uniform(roomy), []step{
		{"FLR", `["" ""]`, `[]`, ``, 0, 1, api.OK},
		{"FR", `[""]`, `[]`, ``, 0, 2, api.OK},
		{"R", `[]`, `[]`, ``, 0, 3, api.OK},
		{"FLR", `["" ""]`, `[]`, ``, 0, 4, api.OK},
		{"LR", ``, `[""]`, ``, 0, 4, api.ErrWidth},
	}},
	{"begun isn't handed out: nothing is bound as long as no record is", uniform(roomy), []step{
		{"BL", ``, `[""]`, ``, 1, 0, api.OK},
		{"BF", ``, `["" ""]`, ``, 2, 0, api.OK},
		{"BL", ``, `["" "" ""]`, ``, 3, 0, api.OK},
		{"R", `["" "" ""]`, `[]`, ``, 3, 1, api.OK},
	}},
	{"not uniform: any number of fields", roomy, []step{
		{"B+aF", ``, `["a"]`, ``, 1, 0, api.OK},
		{"+bLR", `["a" "b"]`, `[]`, ``, 1, 1, api.OK},
		{"BLR", `[""]`, `[]`, ``, 2, 2, api.OK},
		{"BF", ``, `[""]`, ``, 3, 2, api.OK},
		{"F", ``, `["" ""]`, ``, 3, 2, api.OK},
		{"LR", `["" "" ""]`, `[]`, ``, 3, 3, api.OK},
	}},
	{"a field's bytes are counted from its beginning on", narrow, []step{
		{"B+a", ``, `[]`, `a`, 1, 0, api.OK},
		{"+b", ``, `[]`, `ab`, 1, 0, api.OK},
		{"+cF", ``, `["abc"]`, ``, 1, 0, api.OK},
		{"+d", ``, `["abc"]`, `d`, 1, 0, api.OK},
		{"+e", ``, `["abc"]`, `de`, 1, 0, api.OK},
		{"+f", ``, `["abc"]`, `def`, 1, 0, api.OK},
		{"LR", `["abc" "def"]`, `[]`, ``, 1, 1, api.OK},
		{"+g", ``, `[]`, `g`, 1, 1, api.OK},
		{"+h", ``, `[]`, `gh`, 1, 1, api.OK},
		{"+i", ``, `[]`, `ghi`, 1, 1, api.OK},
		{"+j", ``, `[]`, `ghi`, 1, 1, api.ErrField},
	}},
	{"a record ends behind a carriage return and a line feed", roomy, []step{
		{"B+a", ``, `[]`, `a`, 1, 0, api.OK},
		{"L", ``, `["a"]`, ``, 1, 0, api.OK},
		{"R", `["a"]`, `[]`, ``, 1, 1, api.OK},
		{"", ``, `[]`, ``, 1, 1, api.OK},
		{"B", ``, `[]`, ``, 2, 1, api.OK},
	}},
}

// P5.1: each of these steps: what Take answers, and what is to be seen behind it.
func TestWrittenOut(t *testing.T) {
	for _, c := range written {
		m, e := fields.New(c.l)
		if e != api.OK {
			t.Fatal(c.name, e)
		}
		for i, s := range c.steps {
			record, ok, e := m.Take(event(s.letters))
			handed := ""
			if ok {
				handed = fmt.Sprintf("%q", record)
			}
			if handed != s.handed || !ok && len(record) > 0 || e != s.e {
				t.Errorf("%s, step %d: Take = %q, %v, %d; want %s, %d", c.name, i, record, ok, e, s.handed, s.e)
			}
			open, field := m.Open()
			if got := fmt.Sprintf("%q", open); got != s.record || field != s.field {
				t.Errorf("%s, step %d: Open() = %s, %q; want %s, %q", c.name, i, got, field, s.record, s.field)
			}
			if m.Begun() != s.begun || m.Count() != s.count || m.Stopped() != s.e {
				t.Errorf("%s, step %d: Begun() = %d, Count() = %d, Stopped() = %d; want %d, %d, %d",
					c.name, i, m.Begun(), m.Count(), m.Stopped(), s.begun, s.count, s.e)
			}
		}
	}
}

// P5.1: behind an error nothing changes, whatever comes, and each event comes to that
// error: of all that is written out, with every event.
func TestBehindAnError(t *testing.T) {
	for _, c := range written {
		a := newAsked(t, c.l)
		for _, s := range c.steps {
			a.take(event(s.letters))
		}
		if a.Stopped() == api.OK {
			continue
		}
		record, field := a.Open()
		begun, count, stopped := a.Begun(), a.Count(), a.Stopped()
		for range 3 {
			for _, e := range everyEvent() {
				e.B = '!'
				if out, ok, err := a.Take(e); len(out) > 0 || ok || err != stopped {
					t.Errorf("%s, then %v: %q, %v, %d; want %d", c.name, e, out, ok, err, stopped)
				}
				open, bytes := a.Open()
				if !slices.Equal(open, record) || bytes != field || a.Begun() != begun || a.Count() != count || a.Stopped() != stopped {
					t.Errorf("%s, then %v: %q, %q, %d, %d, %d; it was %q, %q, %d, %d, %d",
						c.name, e, open, bytes, a.Begun(), a.Count(), a.Stopped(), record, field, begun, count, stopped)
				}
			}
		}
	}
}

// wantErrorAt hands in events, the last of which is the first one that comes to an error, to this one.
func wantErrorAt(t *testing.T, l api.Limits, all []scan.Event, want api.Errno) {
	t.Helper()
	m, _ := fields.New(l)
	for i, e := range all {
		_, _, err := m.Take(e)
		if i < len(all)-1 && err != api.OK || i == len(all)-1 && err != want {
			t.Fatalf("%v: event %d of %d is error %d; want %d at the last one", l, i+1, len(all), err, want)
		}
	}
	if m.Stopped() != want {
		t.Fatalf("%v: Stopped() = %d; want %d", l, m.Stopped(), want)
	}
}

// P5.1: each error at the first event that has it, and none ahead of that, for each of some limits.
func TestFirstEventThatIsWrong(t *testing.T) {
	for n := 1; n <= 20; n++ {
		times := strings.Repeat
		l := roomy
		l.Field = n
		wantErrorAt(t, l, events("B "+times("+a ", n)+"+a"), api.ErrField)
		wantErrorAt(t, l, events("B "+times("+a ", n)+"F "+times("+b ", n)+"LR B "+times("+c ", n)+"+c"), api.ErrField)

		l = roomy
		l.Fields = n
		wantErrorAt(t, l, events("B "+times("F ", n-1)+"F"), api.ErrFields)
		wantErrorAt(t, l, events("B "+times("F ", n-1)+"LR B "+times("F ", n-1)+"F"), api.ErrFields)
		wantErrorAt(t, l, events("B "+times("L ", n)+"L L F"), api.ErrFields)

		l = roomy
		l.Records = n
		wantErrorAt(t, l, events(times("B ", n)+"B"), api.ErrRecords)
		wantErrorAt(t, l, events(times("B+aL R ", n)+"R LR B+a"), api.ErrRecords)

		l = uniform(roomy)
		first := "B " + times("F ", n-1) + "LR "
		wantErrorAt(t, l, events(first+"B "+times("F ", n-1)+"F"), api.ErrWidth)
		wantErrorAt(t, l, events(first+first+"B "+times("F ", n-1)+"F"), api.ErrWidth)
		wantErrorAt(t, l, events(first+first+"B "+times("F ", n-1)+"L L"), api.ErrWidth)
		for fewer := range n - 1 {
			wantErrorAt(t, l, events(first+first+"B "+times("F ", fewer)+"LR"), api.ErrWidth)
			wantErrorAt(t, l, events(first+"B "+times("F ", fewer)+"L"), api.ErrWidth)
		}
	}
}

// P5.1: of parts of one event that are wrong the first one tells.
func TestFirstPartThatIsWrong(t *testing.T) {
	for _, c := range []struct {
		l    api.Limits
		all  string
		want api.Errno
	}{
		{api.Limits{Field: 1, Fields: 1, Records: 1, Uniform: true}, "B+aLR +b B+cFLR", api.ErrRecords},
		{api.Limits{Field: 1, Fields: 1, Records: 2, Uniform: true}, "B+aLR +b B+cFLR", api.ErrField},
		{api.Limits{Field: 2, Fields: 1, Records: 2, Uniform: true}, "B+aLR +b B+cFLR", api.ErrFields},
		{api.Limits{Field: 2, Fields: 2, Records: 2, Uniform: true}, "B+aLR +b B+cFLR", api.ErrWidth},
		{api.Limits{Field: 2, Fields: 2, Records: 2, Uniform: true}, "B+aFLR +b B+cLR", api.ErrWidth},
		{api.Limits{Field: 2, Fields: 2, Records: 2}, "B+aLR +b B+cFLR", api.OK},
	} {
		wantErrorAt(t, c.l, events(c.all), c.want)
	}
}

// P5.1: every list of three of all events there are, within narrow limits.
func TestAllEvents(t *testing.T) {
	eachNarrow(2, 2, 2, func(l api.Limits) {
		eachList(everyEvent(), 3, func(all []scan.Event) { wantEvents(t, l, all) })
	})
}

// P5.1: every list of five of each part alone and of the events that bytes come to most, within narrow limits.
func TestLongerLists(t *testing.T) {
	from := events("B +x F L R B+x BF LR")
	eachNarrow(2, 3, 1, func(l api.Limits) {
		l.Records++
		eachList(from, 5, func(all []scan.Event) { wantEvents(t, l, all) })
	})
}

// P5.1: long lists of any events, within limits of all sizes.
func TestLongLists(t *testing.T) {
	r := rand.New(rand.NewSource(5))
	from := append(everyEvent(), events("+x +x +x +x +x +x F F F LR LR B+x")...)
	for range 3000 {
		l := api.Limits{Field: 1 + r.Intn(12), Fields: 1 + r.Intn(8), Records: 1 + r.Intn(60), Uniform: r.Intn(3) == 0}
		a := newAsked(t, l)
		for range 100 {
			e := from[r.Intn(len(from))]
			e.B = byte(r.Intn(256))
			a.take(e)
		}
	}
}

// P5.1: of every byte there is.
func TestEveryByte(t *testing.T) {
	a := newAsked(t, roomy)
	var want []byte
	for b := range 256 {
		a.take(scan.Event{Begin: b == 0, Add: true, B: byte(b)})
		want = append(want, byte(b))
	}
	if _, field := a.Open(); field != string(want) {
		t.Errorf("%q", field)
	}
	if record, ok, e := a.Take(event("LR")); !ok || e != api.OK || len(record) != 1 || record[0] != string(want) {
		t.Errorf("%q, %v, %d", record, ok, e)
	}
}

// taken is all that a maker hands out of a text, and how many records it began.
func taken(t *testing.T, l api.Limits, d api.Dialect, s string) ([][]string, int) {
	t.Helper()
	all, fault := scan.Run(d, s)
	m, e := fields.New(l)
	if e != api.OK || fault != (api.Fault{}) {
		t.Fatalf("%q: %v, %v", s, e, fault)
	}
	var out [][]string
	for _, e := range all {
		if record, ok, _ := m.Take(e); ok {
			out = append(out, record)
		}
	}
	if m.Stopped() != api.OK || m.Count() != len(out) {
		t.Fatalf("%q: Stopped() = %d, Count() = %d of %d", s, m.Stopped(), m.Count(), len(out))
	}
	return out, m.Begun()
}

func wantRecords(t *testing.T, s string, got, want [][]string, begun int) {
	t.Helper()
	if !slices.EqualFunc(got, want, slices.Equal[[]string]) || begun != len(want) {
		t.Fatalf("%q: %q, begun %d; want %q", s, got, begun, want)
	}
}

// P5.1: of what the bytes of a text come to: its lines that aren't empty, parted at each comma.
func TestTexts(t *testing.T) {
	d := api.Dialect{Delim: ',', Quote: '"', End: api.LF}
	var each func(s string, more int)
	each = func(s string, more int) {
		var want [][]string
		for _, line := range strings.Split(s, "\n") {
			if line != "" {
				want = append(want, strings.Split(line, ","))
			}
		}
		got, begun := taken(t, roomy, d, s)
		wantRecords(t, s, got, want, begun)
		if more > 0 {
			each(s+"a", more-1)
			each(s+",", more-1)
			each(s+"\n", more-1)
		}
	}
	each("", 7)
}

// P5.1: of texts with quotes, and other ends of line.
func TestTextsWrittenOut(t *testing.T) {
	d := api.Dialect{Delim: ',', Quote: '"', End: api.Either}
	for _, c := range []struct {
		s    string
		want [][]string
	}{
		{"\"\"", [][]string{{""}}},
		{"\"a\"\"b\",\"c,d\"\n", [][]string{{`a"b`, "c,d"}}},
		{"\"a\r\nb\"\r\n\r\nc,\"\"", [][]string{{"a\r\nb"}, {"c", ""}}},
		{"id,name\r\n7,\"quill, pen\"\r\n", [][]string{{"id", "name"}, {"7", "quill, pen"}}},
	} {
		got, begun := taken(t, roomy, d, c.s)
		wantRecords(t, c.s, got, c.want, begun)
	}
}

// answers are lists that a maker gave, and what they held then.
type answers struct {
	lists, copies [][]string
	texts, wrote  []string
}

func (a *answers) keep(l []string) {
	a.lists, a.copies = append(a.lists, l), append(a.copies, cloneTexts(l))
}

func (a *answers) keepText(s string) {
	a.texts, a.wrote = append(a.texts, s), append(a.wrote, strings.Clone(s))
}

// cloneTexts is a list in memory of its own, down to its texts' bytes.
func cloneTexts(l []string) []string {
	var all []string
	for _, s := range l {
		all = append(all, strings.Clone(s))
	}
	return all
}

// P5.1: what was handed out, and what Open told, stays as it was, whatever comes, and
// whoever writes into another answer, or behind its end.
func TestAnswersStay(t *testing.T) {
	r := rand.New(rand.NewSource(7))
	from := events("+a +b +c F L R LR B+d BF B+eFLR")
	for range 300 {
		m, _ := fields.New(roomy)
		var kept answers
		for range 60 {
			e := from[r.Intn(len(from))]
			record, _, _ := m.Take(e)
			kept.keep(record)
			open, field := m.Open()
			kept.keep(open)
			kept.keepText(field)
		}
		for _, l := range kept.lists {
			spoil(l[len(l):])
		}
		for i, l := range kept.lists {
			if !slices.Equal(l, kept.copies[i]) {
				t.Fatalf("answer %d was %q and is %q", i, kept.copies[i], l)
			}
			spoil(l)
		}
		if !slices.Equal(kept.texts, kept.wrote) {
			t.Fatalf("%q were %q", kept.texts, kept.wrote)
		}
	}
}

// P5.1: writing into what was handed out, and into what Open told, changes nothing of what comes.
func TestAnswersAreOnesOwn(t *testing.T) {
	m, _ := fields.New(uniform(roomy))
	for _, e := range events("B+a F +b") {
		m.Take(e)
	}
	open, _ := m.Open()
	spoil(open)
	m.Take(event("F"))
	open, _ = m.Open()
	if !slices.Equal(open, []string{"a", "b"}) {
		t.Errorf("Open() = %q", open)
	}
	spoil(open)
	record, _, _ := m.Take(event("+cLR"))
	if !slices.Equal(record, []string{"a", "b", "c"}) {
		t.Errorf("handed out: %q", record)
	}
	spoil(record)
	for _, e := range events("B+d F F") {
		m.Take(e)
	}
	other, ok, e := m.Take(event("+eLR"))
	if !ok || e != api.OK || !slices.Equal(other, []string{"d", "", "e"}) || m.Count() != 2 {
		t.Errorf("handed out: %q, %v, %d", other, ok, e)
	}
	if !slices.Equal(record, []string{"spoilt", "spoilt", "spoilt"}) {
		t.Errorf("what was handed out, and written into, is %q", record)
	}
}

// P5.1: an error keeps what was gathered, and what Open tells of it is one's own, too.
func TestOpenBehindAnError(t *testing.T) {
	a := newAsked(t, api.Limits{Field: 2, Fields: 3, Records: 1})
	for _, e := range events("B+a F +b +c +d +e LR") {
		a.take(e)
	}
	open, field := a.Open()
	spoil(open)
	if again, _ := a.Open(); field != "bc" || !slices.Equal(again, []string{"a"}) {
		t.Errorf("%q, %q", again, field)
	}
}

// P5.1: makers that are handed events by turns don't know of each other.
func TestMakersByTurns(t *testing.T) {
	a, b, c := newAsked(t, narrow), newAsked(t, roomy), newAsked(t, uniform(roomy))
	for _, turn := range [][3]string{
		{"B+a", "B+b", "BLR"}, {"+c", "F", "B+d"}, {"B", "+e", "+f"}, {"+g", "LR", "F"}, {"LR", "B+hLR", "LR"}, {"B", "R", "B"},
	} {
		a.take(event(turn[0]))
		b.take(event(turn[1]))
		c.take(event(turn[2]))
	}
	if a.Stopped() != api.ErrRecords || b.Stopped() != api.OK || c.Stopped() != api.ErrWidth {
		t.Error(a.Stopped(), b.Stopped(), c.Stopped())
	}
}

// P1: many bytes, fields and records come to their end, at limits that are as many, and one behind is the error.
func TestMany(t *testing.T) {
	const n = 1 << 16
	l := api.Limits{Field: n, Fields: n, Records: n, Uniform: true}
	m, _ := fields.New(l)
	for range n {
		if _, _, e := m.Take(scan.Event{Add: true, B: 'a'}); e != api.OK {
			t.Fatal(e)
		}
	}
	for range n - 1 {
		if _, _, e := m.Take(scan.Event{Field: true}); e != api.OK {
			t.Fatal(e)
		}
	}
	record, ok, e := m.Take(scan.Event{Line: true, Record: true})
	if len(record) != n || record[0] != strings.Repeat("a", n) || record[n-1] != "" || !ok || e != api.OK {
		t.Errorf("%d fields, %v, %d", len(record), ok, e)
	}
	wantErrorAt(t, l, slices.Repeat(events("+a"), n+1), api.ErrField)
	wantErrorAt(t, l, slices.Repeat(events("F"), n), api.ErrFields)
	wantErrorAt(t, l, append(slices.Repeat(events("BLR"), n), event("B")), api.ErrRecords)
}

// P1: with the widest limits nothing goes round.
func TestWidestLimits(t *testing.T) {
	l := api.Limits{Field: api.MaxLimit, Fields: api.MaxLimit, Records: api.MaxLimit}
	all := slices.Repeat(events("B+a +b F +c L R"), 10)
	wantEvents(t, l, all)
	wantEvents(t, uniform(l), all)
}

func FuzzEvents(f *testing.F) {
	f.Add(2, 2, 2, true, []byte{3, 'a', 2, 'b', 24, 0, 5, 0})
	f.Add(1, 1, 1, false, []byte{31, 0, 31, 0})
	f.Fuzz(func(t *testing.T, field, most, records int, same bool, bytes []byte) {
		within := func(n int) int { return 1 + (n%50+50)%50 }
		a := newAsked(t, api.Limits{Field: within(field), Fields: within(most), Records: within(records), Uniform: same})
		all := everyEvent()
		for len(bytes) > 1 {
			e := all[bytes[0]%32]
			e.B = bytes[1]
			a.take(e)
			bytes = bytes[2:]
		}
	})
}
