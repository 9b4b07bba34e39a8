package table_test

import (
	"math"
	"math/rand"
	"slices"
	"strconv"
	"strings"
	"testing"

	"quillpen/api"
	"quillpen/table"
	"quillpen/whole"
	"quillpen/write"
)

// The chapter's words, told field by field.

// spelt is a table's text, another one of each table, whatever its fields are: as many brackets as records, as many quoted texts as fields.
func spelt(table [][]string) string {
	var told strings.Builder
	for _, r := range table {
		told.WriteByte('[')
		for _, f := range r {
			told.WriteString(strconv.Quote(f))
		}
		told.WriteByte(']')
	}
	return told.String()
}

// widths are the records' numbers of fields, in rising order.
func widths(table [][]string) []int {
	var all []int
	for _, r := range table {
		all = append(all, len(r))
	}
	slices.Sort(all)
	return all
}

// toldWidths is the least and the greatest number of fields.
func toldWidths(table [][]string) (int, int) {
	if len(table) == 0 {
		return 0, 0
	}
	all := widths(table)
	return all[0], all[len(all)-1]
}

// toldEven tells whether there is but one number of fields, or none.
func toldEven(table [][]string) bool { return len(slices.Compact(widths(table))) <= 1 }

// misfit is what Fits tells.
type misfit struct {
	row, col int
	e        api.Errno
}

// ranks is the order in which a record is asked.
var ranks = []api.Errno{api.ErrRecords, api.ErrFields, api.ErrField, api.ErrWidth}

// toldFits is the first of all that doesn't fit: of the first record, of the kind asked first, of the first field.
func toldFits(l api.Limits, table [][]string) misfit {
	for _, n := range []int{l.Field, l.Fields, l.Records} {
		if n < 1 || n > 1<<31 {
			return misfit{0, 0, api.ErrLimits}
		}
	}
	var all []misfit
	for i, r := range table {
		for k, f := range r {
			if len(f) > l.Field {
				all = append(all, misfit{i, k, api.ErrField})
			}
		}
		if l.Uniform && len(r) != len(table[0]) {
			all = append(all, misfit{i, 0, api.ErrWidth})
		}
		if len(r) > l.Fields {
			all = append(all, misfit{i, l.Fields, api.ErrFields})
		}
		if i+1 > l.Records {
			all = append(all, misfit{i, 0, api.ErrRecords})
		}
	}
	if len(all) == 0 {
		return misfit{}
	}
	return slices.MinFunc(all, func(a, b misfit) int {
		if a.row != b.row {
			return a.row - b.row
		}
		if a.e != b.e {
			return slices.Index(ranks, a.e) - slices.Index(ranks, b.e)
		}
		return a.col - b.col
	})
}

// toldTurn is the table whose records are columns, filled field by field.
func toldTurn(table [][]string) ([][]string, api.Errno) {
	if !toldEven(table) {
		return nil, api.ErrWidth
	}
	var turned [][]string
	for i, r := range table {
		for k, f := range r {
			if i == 0 {
				turned = append(turned, nil)
			}
			turned[k] = append(turned[k], f)
		}
	}
	return turned, api.OK
}

// toldColumn is the fields of one number.
func toldColumn(table [][]string, n int) ([]string, api.Errno) {
	if n < 0 {
		return nil, api.ErrArg
	}
	var column []string
	for _, r := range table {
		for k, f := range r {
			if k == n {
				column = append(column, f)
			}
		}
	}
	if len(column) < len(table) {
		return nil, api.ErrWidth
	}
	return column, api.OK
}

// toldPick is the fields at places, place by place.
func toldPick(table [][]string, places []int) ([][]string, int, api.Errno) {
	picked := make([][]string, len(table))
	lacking := len(table)
	for _, place := range places {
		if place < 0 {
			return nil, 0, api.ErrArg
		}
		for i, r := range table {
			if place >= len(r) {
				lacking = min(lacking, i)
			} else {
				picked[i] = append(picked[i], r[place])
			}
		}
	}
	if lacking < len(table) {
		return nil, lacking, api.ErrWidth
	}
	return picked, len(table), api.OK
}

// What is handed in, and what becomes of it.

// spare is what stands in the room behind the lists that are handed in.
const spare = "spare"

// spared is a copy of a table, with such room behind each record, and behind the last one.
func spared(table [][]string) [][]string {
	copied := make([][]string, 0, len(table)+1)
	for _, r := range table {
		copied = append(copied, append(append([]string{}, r...), spare)[:len(r)])
	}
	return append(copied, []string{spare})[:len(table)]
}

// wantUntouched asks that a table that was handed in is as it was, with the room behind it.
func wantUntouched(t *testing.T, given, table [][]string) {
	all := given[:len(given)+1]
	ok := spelt(given) == spelt(table) && spelt(all[len(given):]) == spelt([][]string{{spare}})
	for _, r := range given {
		ok = ok && r[:len(r)+1][len(r)] == spare
	}
	if !ok {
		t.Helper()
		t.Fatalf("%q was written into: %q", table, all)
	}
}

// spoil overwrites all the memory that a record reaches.
func spoil(r []string) {
	r = r[:cap(r)]
	for i := range r {
		r[i] = "spoilt"
	}
}

// spoilTable overwrites all the memory that a table and its records reach.
func spoilTable(table [][]string) {
	table = table[:cap(table)]
	for i, r := range table {
		spoil(r)
		table[i] = []string{"spoilt"}
	}
}

// wantOwn asks of a call that answers a table that this is right, shares nothing with what was handed in, and that no two of its lists share anything.
func wantOwn(t *testing.T, what string, table, want [][]string, call func([][]string) [][]string) {
	t.Helper()
	given := spared(table)
	got := call(given)
	if spelt(got) != spelt(want) {
		t.Fatalf("%s of %q: %q; want %q", what, table, got, want)
	}
	wantUntouched(t, given, table)
	spoilTable(given)
	if spelt(got) != spelt(want) {
		t.Fatalf("%s of %q: writing into this made of the answer %q", what, table, got)
	}
	given = spared(table)
	got = call(given)
	for i, r := range got {
		spoil(r)
		if spelt(got[i+1:]) != spelt(want[i+1:]) {
			t.Fatalf("%s of %q: writing into the answer's record %d changes others: %q", what, table, i, got)
		}
	}
	spoilTable(got)
	wantUntouched(t, given, table)
	if again := call(given); spelt(again) != spelt(want) {
		t.Fatalf("%s of %q, again: %q; want %q", what, table, again, want)
	}
}

// wantCopy holds Copy of a table against it.
func wantCopy(t *testing.T, records [][]string) {
	t.Helper()
	wantOwn(t, "Copy", records, records, table.Copy)
}

// wantShape holds Even and Widths of a table against what these are.
func wantShape(t *testing.T, records [][]string, even bool, least, most int) {
	given := spared(records)
	if got := table.Even(given); got != even {
		t.Helper()
		t.Fatalf("Even(%q) = %v; want %v", records, got, even)
	}
	if a, b := table.Widths(given); a != least || b != most {
		t.Helper()
		t.Fatalf("Widths(%q) = %d, %d; want %d, %d", records, a, b, least, most)
	}
	wantUntouched(t, given, records)
}

// wantFits holds Fits of a table against what it is.
func wantFits(t *testing.T, l api.Limits, records [][]string, row, col int, e api.Errno) {
	given := spared(records)
	if a, b, c := table.Fits(l, given); a != row || b != col || c != e {
		t.Helper()
		t.Fatalf("Fits(%v, %q) = %d, %d, %d; want %d, %d, %d", l, records, a, b, c, row, col, e)
	}
	wantUntouched(t, given, records)
}

// wantTurn holds Turn of a table against what it is.
func wantTurn(t *testing.T, records, want [][]string, e api.Errno) {
	t.Helper()
	wantOwn(t, "Turn", records, want, func(given [][]string) [][]string {
		turned, got := table.Turn(given)
		if got != e {
			t.Helper()
			t.Fatalf("Turn(%q): error %d; want %d", records, got, e)
		}
		return turned
	})
}

// wantColumn holds Column of a table against what it is.
func wantColumn(t *testing.T, records [][]string, n int, want []string, e api.Errno) {
	t.Helper()
	wantOwn(t, "Column "+strconv.Itoa(n), records, [][]string{want}, func(given [][]string) [][]string {
		column, got := table.Column(given, n)
		if got != e {
			t.Helper()
			t.Fatalf("Column(%q, %d): error %d; want %d", records, n, got, e)
		}
		return [][]string{column}
	})
}

// wantPick holds Pick of a table against what it is.
func wantPick(t *testing.T, records [][]string, places []int, want [][]string, n int, e api.Errno) {
	t.Helper()
	room := append(slices.Clone(places), 7)
	wantOwn(t, "Pick", records, want, func(given [][]string) [][]string {
		picked, got, err := table.Pick(given, room[:len(places)])
		if got != n || err != e {
			t.Helper()
			t.Fatalf("Pick(%q, %d): %d, %d; want %d, %d", records, places, got, err, n, e)
		}
		if !slices.Equal(room, append(slices.Clone(places), 7)) {
			t.Helper()
			t.Fatalf("Pick(%q, %d) wrote into the places: %d", records, places, room)
		}
		return picked
	})
}

// checkTable holds all that is said of a table against the chapter's words.
func checkTable(t *testing.T, records [][]string) {
	t.Helper()
	wantCopy(t, records)
	least, most := toldWidths(records)
	wantShape(t, records, toldEven(records), least, most)
	turned, e := toldTurn(records)
	wantTurn(t, records, turned, e)
	for n := -1; n <= most+1; n++ {
		column, e := toldColumn(records, n)
		wantColumn(t, records, n, column, e)
	}
}

// checkPick holds Pick of a table against the chapter's words.
func checkPick(t *testing.T, records [][]string, places []int) {
	t.Helper()
	picked, n, e := toldPick(records, places)
	wantPick(t, records, places, picked, n, e)
}

// checkFits holds Fits of a table against the chapter's words.
func checkFits(t *testing.T, l api.Limits, records [][]string) {
	t.Helper()
	m := toldFits(l, records)
	wantFits(t, l, records, m.row, m.col, m.e)
}

// eachList hands out every list of at most so many of these things, the empty one, too.
func eachList[T any](things []T, most int, f func([]T)) {
	var add func(l []T)
	add = func(l []T) {
		f(slices.Clone(l))
		if len(l) == most {
			return
		}
		for _, thing := range things {
			add(append(l[:len(l):len(l)], thing))
		}
	}
	add(nil)
}

// lists are all that eachList hands out.
func lists[T any](things []T, most int) [][]T {
	var all [][]T
	eachList(things, most, func(l []T) { all = append(all, l) })
	return all
}

// numbered are tables of records of so many fields, of which no two are alike.
func numbered(fields ...int) [][]string {
	records := [][]string{}
	for i, n := range fields {
		r := []string{}
		for k := range n {
			r = append(r, strconv.Itoa(i)+"."+strconv.Itoa(k))
		}
		records = append(records, r)
	}
	return records
}

// of is the record of so many such fields.
func of(n int, f string) []string { return slices.Repeat([]string{f}, n) }

// P13.1, P13.2: the chapter's example, and turned twice.
func TestChaptersExample(t *testing.T) {
	wantTurn(t, [][]string{{"a", "b"}, {"c", "d"}}, [][]string{{"a", "c"}, {"b", "d"}}, api.OK)
	wantTurn(t, [][]string{{"a", "c"}, {"b", "d"}}, [][]string{{"a", "b"}, {"c", "d"}}, api.OK)
}

// P13.1: Same, written out, either one first.
func TestSameWrittenOut(t *testing.T) {
	x := [][]string{{"a", "b"}, {}, {"c"}, {"", ""}}
	for _, c := range []struct {
		a, b [][]string
		want bool
	}{
		{x, x, true},
		{x, [][]string{{"a", "b"}, nil, {"c"}, {"", ""}}, true},
		{nil, nil, true}, {nil, [][]string{}, true}, {[][]string{{}}, [][]string{nil}, true}, {[][]string{{}, nil, {}}, [][]string{nil, {}, {}}, true},
		{[][]string{{"\xff\x00é"}}, [][]string{{"\xff\x00é"}}, true},

		{nil, [][]string{{}}, false}, {nil, [][]string{nil}, false}, {nil, [][]string{{""}}, false}, // a record of no fields is a record
		{[][]string{{}}, [][]string{{}, {}}, false}, {[][]string{{}}, [][]string{{""}}, false}, {[][]string{{"a"}}, [][]string{{"a"}, {}}, false}, {[][]string{{"a"}}, [][]string{{}, {"a"}}, false},
		{[][]string{{"a"}, {"b"}}, [][]string{{"a"}}, false}, {[][]string{{"a"}, {"b"}}, [][]string{{"b"}}, false}, // their number of records
		{[][]string{{"a"}, {"b"}, {"c"}}, [][]string{{"x"}, {"b"}, {"c"}}, false}, {[][]string{{"a"}, {"b"}, {"c"}}, [][]string{{"a"}, {"x"}, {"c"}}, false}, {[][]string{{"a"}, {"b"}, {"c"}}, [][]string{{"a"}, {"b"}, {"x"}}, false}, // a record
		{[][]string{{"a", "b"}, {"c"}}, [][]string{{"x", "y"}, {"c"}}, false}, {[][]string{{"a"}, {"b"}}, [][]string{{"b"}, {"a"}}, false}, {[][]string{{"a"}, {"a"}}, [][]string{{"a"}, {"b"}}, false},
		{[][]string{{"a", "b", "c"}}, [][]string{{"x", "b", "c"}}, false}, {[][]string{{"a", "b", "c"}}, [][]string{{"a", "x", "c"}}, false}, {[][]string{{"a", "b", "c"}}, [][]string{{"a", "b", "x"}}, false}, // a field
		{[][]string{{"a", "b"}}, [][]string{{"b", "a"}}, false}, {[][]string{{"a"}}, [][]string{{"A"}}, false}, {[][]string{{"a"}}, [][]string{{"a "}}, false}, {[][]string{{"a\x00"}}, [][]string{{"a"}}, false}, {[][]string{{"é"}}, [][]string{{"e\u0301"}}, false}, {[][]string{{"\xff"}}, [][]string{{"\xfe"}}, false},
		{[][]string{{"a", "b"}}, [][]string{{"a"}}, false}, {[][]string{{"a", "b"}}, [][]string{{"a", "b", ""}}, false}, {[][]string{{"a"}, {"b", "c"}}, [][]string{{"a", "b"}, {"c"}}, false}, {[][]string{{"a"}, {"b"}}, [][]string{{"a", "b"}}, false}, {[][]string{{"ab"}}, [][]string{{"a", "b"}}, false}, // a record's number of fields
		{[][]string{{"a", "b"}, {"c"}}, [][]string{{"a", "b"}, {"c", "d"}}, false}, {[][]string{{"a"}, {}, {"b"}}, [][]string{{"a"}, {"b"}, {}}, false},
	} {
		a, b := spared(c.a), spared(c.b)
		if table.Same(a, b) != c.want || table.Same(b, a) != c.want {
			t.Errorf("Same of %q and %q isn't %v", c.a, c.b, c.want)
		}
		wantUntouched(t, a, c.a)
		wantUntouched(t, b, c.b)
	}
}

// P13.1: Same of each two of all small tables.
func TestSameOfEachTwo(t *testing.T) {
	tables := lists(lists([]string{"", "x", "xx"}, 2), 2)
	tables = append(tables, lists(lists([]string{"x"}, 2), 4)...)
	var given [][][]string
	var texts []string
	for _, x := range tables {
		given, texts = append(given, spared(x)), append(texts, spelt(x))
	}
	for i, a := range given {
		for k, b := range given {
			if want := texts[i] == texts[k]; table.Same(a, b) != want {
				t.Fatalf("Same(%q, %q) isn't %v", a, b, want)
			}
		}
	}
	for i, x := range tables {
		wantUntouched(t, given[i], x)
	}
}

// P13.1: Copy, written out: of no records, of records of no fields, of texts that aren't UTF-8, of lists that are one.
func TestCopyWrittenOut(t *testing.T) {
	r := []string{"a", "b"}
	for _, x := range [][][]string{
		nil, {}, {{}}, {nil}, {{}, {}, nil}, {{""}}, {{"a"}}, {{"a", "b"}, {}, {"c"}}, {{"", ""}, {"\xff", "é\x00"}}, {r, r, r[:1], r[1:], r[:0]},
	} {
		wantCopy(t, x)
		if !table.Same(x, table.Copy(x)) || !table.Same(table.Copy(x), x) {
			t.Errorf("%q isn't the same as its copy", x)
		}
	}
}

// P13.1: writing into a copy, into its records or behind them, changes nothing of what was copied; nor the other way; where the lists are pieces of one array, too.
func TestCopySharesNothing(t *testing.T) {
	array := []string{"a", "b", "c", "d", "e"}
	x := [][]string{array[:2], array[2:2], array[2:3], array[1:4], array[:0], array[4:]}
	want := [][]string{{"a", "b"}, {}, {"c"}, {"b", "c", "d"}, {}, {"e"}}
	c := table.Copy(x)
	for i := range c {
		c[i] = append(c[i], "behind")
		spoil(c[i])
		c[i] = nil
		if spelt(x) != spelt(want) || spelt(c[i+1:]) != spelt(want[i+1:]) {
			t.Fatalf("writing into record %d of the copy: %q, copied from %q", i, c, x)
		}
	}
	c = table.Copy(x)
	x[0][0], x[0], x[1] = "z", nil, append(x[1], "y")
	spoil(array)
	if spelt(c) != spelt(want) {
		t.Errorf("writing into what was copied made of the copy %q", c)
	}
	none := make([][]string, 0, 1)
	c = append(table.Copy(none), []string{"a"})
	if none = append(none, []string{"b"}); spelt(c) != spelt([][]string{{"a"}}) || spelt(none) != spelt([][]string{{"b"}}) {
		t.Errorf("of no records: %q, %q", c, none)
	}
}

// P13.1: Even and Widths, written out.
func TestShapeWrittenOut(t *testing.T) {
	wantShape(t, nil, true, 0, 0)
	for _, c := range []struct {
		fields      []int
		even        bool
		least, most int
	}{
		{[]int{}, true, 0, 0},
		{[]int{0}, true, 0, 0}, {[]int{1}, true, 1, 1}, {[]int{7}, true, 7, 7},
		{[]int{0, 0}, true, 0, 0}, {[]int{0, 0, 0}, true, 0, 0}, {[]int{1, 1}, true, 1, 1}, {[]int{3, 3, 3, 3}, true, 3, 3},
		{[]int{2, 3, 3, 3}, false, 2, 3}, {[]int{4, 3, 3, 3}, false, 3, 4}, // the first one
		{[]int{3, 3, 3, 2}, false, 2, 3}, {[]int{3, 3, 3, 4}, false, 3, 4}, // the last one
		{[]int{3, 2, 3, 3}, false, 2, 3}, {[]int{3, 3, 4, 3}, false, 3, 4}, // one between
		{[]int{0, 1}, false, 0, 1}, {[]int{1, 0}, false, 0, 1}, {[]int{0, 0, 5, 0}, false, 0, 5}, {[]int{5, 5, 0, 5}, false, 0, 5}, {[]int{0, 5, 5}, false, 0, 5}, {[]int{5, 5, 0}, false, 0, 5},
		{[]int{1, 2, 3, 4, 5}, false, 1, 5}, {[]int{5, 4, 3, 2, 1}, false, 1, 5}, {[]int{3, 1, 4, 1, 5, 9, 2, 6}, false, 1, 9}, {[]int{2, 1, 3, 2}, false, 1, 3}, {[]int{2, 3, 1, 2}, false, 1, 3},
	} {
		wantShape(t, numbered(c.fields...), c.even, c.least, c.most)
	}
}

// P13.1: Copy, Even, Widths, Turn and Column of all small tables, and of all small shapes.
func TestEverySmallTable(t *testing.T) {
	eachList(lists([]string{"", "x", "yy"}, 2), 2, func(x [][]string) { checkTable(t, x) })
	eachList([]int{0, 1, 2, 3}, 5, func(fields []int) { checkTable(t, numbered(fields...)) })
}

// wrongLimits are some that aren't right, by each of their parts.
func wrongLimits() []api.Limits {
	var all []api.Limits
	for _, n := range []int{0, -1, math.MinInt, api.MaxLimit + 1, math.MaxInt} {
		all = append(all, api.Limits{Field: n, Fields: 9, Records: 9}, api.Limits{Field: 9, Fields: n, Records: 9}, api.Limits{Field: 9, Fields: 9, Records: n}, api.Limits{Field: n, Fields: n, Records: n})
		all = append(all, api.Limits{Field: 1, Fields: 1, Records: n}, api.Limits{Field: n, Fields: 1, Records: 1})
	}
	for _, l := range all {
		l.Uniform = true
		all = append(all, l)
	}
	return append(all, api.Limits{}, api.Limits{Uniform: true})
}

// P13.1: Fits: limits that aren't right are told ahead of all else, whatever the table.
func TestFitsWrongLimits(t *testing.T) {
	tables := [][][]string{nil, {}, {{}}, {{"a"}}, {{"a"}, {"b", "c"}}, numbered(9, 10), numbered(slices.Repeat([]int{9}, 10)...), {{"a", strings.Repeat("b", 10)}}, {{}, {"aa", "bb"}}}
	for _, l := range wrongLimits() {
		for _, x := range tables {
			wantFits(t, l, x, 0, 0, api.ErrLimits)
		}
	}
}

// P13.1: Fits: the greatest limits are right, and the least ones.
func TestFitsEdgesOfLimits(t *testing.T) {
	wide := api.Limits{Field: api.MaxLimit, Fields: api.MaxLimit, Records: api.MaxLimit}
	least := api.Limits{Field: 1, Fields: 1, Records: 1}
	for _, uniform := range []bool{false, true} {
		wide.Uniform, least.Uniform = uniform, uniform
		for _, x := range [][][]string{nil, {}, {{}}, {nil}, {{""}}, {{"a"}}} {
			wantFits(t, wide, x, 0, 0, api.OK)
			wantFits(t, least, x, 0, 0, api.OK)
		}
		wantFits(t, wide, numbered(20, 20, 20), 0, 0, api.OK)
		wantFits(t, wide, [][]string{{strings.Repeat("x", 1<<16), "\xff"}, {"", "y"}}, 0, 0, api.OK)
		wantFits(t, least, [][]string{{}, {}}, 1, 0, api.ErrRecords)
		wantFits(t, least, [][]string{{"", ""}}, 0, 1, api.ErrFields)
		wantFits(t, least, [][]string{{"aa"}}, 0, 0, api.ErrField)
	}
	wide.Uniform = false
	wantFits(t, wide, numbered(3, 0, 4, 1), 0, 0, api.OK)
}

// P13.1: Fits: each kind alone, just at the limit and one beyond it.
func TestFitsEachKindAlone(t *testing.T) {
	l := api.Limits{Field: 3, Fields: 4, Records: 5}
	for _, l.Uniform = range []bool{false, true} {
		for n := range 6 {
			wantFits(t, l, numbered(slices.Repeat([]int{2}, n)...), 0, 0, api.OK)
		}
		for n := 6; n < 10; n++ {
			wantFits(t, l, numbered(slices.Repeat([]int{2}, n)...), 5, 0, api.ErrRecords)
			wantFits(t, l, make([][]string, n), 5, 0, api.ErrRecords)
		}
		for n := range 5 {
			wantFits(t, l, numbered(n), 0, 0, api.OK)
			wantFits(t, l, numbered(n, n), 0, 0, api.OK)
		}
		for n := 5; n < 9; n++ {
			wantFits(t, l, numbered(n), 0, 4, api.ErrFields)
			wantFits(t, l, numbered(n, n), 0, 4, api.ErrFields)
		}
		for n := range 4 {
			wantFits(t, l, [][]string{{strings.Repeat("x", n)}}, 0, 0, api.OK)
			wantFits(t, l, [][]string{of(4, strings.Repeat("x", n)), of(4, strings.Repeat("y", n))}, 0, 0, api.OK)
		}
		for n := 4; n < 8; n++ {
			long := strings.Repeat("x", n)
			for k := range 4 {
				r := of(4, "abc")
				r[k] = long
				wantFits(t, l, [][]string{r}, 0, k, api.ErrField)
				wantFits(t, l, [][]string{of(4, ""), of(4, "abc"), r, of(4, "")}, 2, k, api.ErrField)
			}
		}
	}
	l.Uniform = false
	for n := 5; n < 9; n++ {
		wantFits(t, l, numbered(4, 0, n, 4), 2, 4, api.ErrFields)
	}
}

// P13.1: Fits: with Uniform a record of more or fewer fields than the first one; without it none.
func TestFitsUniform(t *testing.T) {
	l := api.Limits{Field: 3, Fields: 4, Records: 5}
	for _, c := range []struct {
		fields []int
		row    int
	}{
		{[]int{0, 1}, 1}, {[]int{1, 0}, 1}, {[]int{2, 1}, 1}, {[]int{2, 3}, 1}, {[]int{3, 2, 2}, 1}, {[]int{2, 2, 2, 2, 1}, 4}, {[]int{2, 2, 2, 2, 3}, 4}, {[]int{2, 2, 4, 2, 2}, 2}, {[]int{4, 4, 0, 4, 4}, 2}, {[]int{3, 3, 1, 3, 2}, 2},
	} {
		l.Uniform = true
		wantFits(t, l, numbered(c.fields...), c.row, 0, api.ErrWidth)
		l.Uniform = false
		wantFits(t, l, numbered(c.fields...), 0, 0, api.OK)
	}
}

// P13.1: Fits: two kinds in one record, in the chapter's order; three, and all four.
func TestFitsOrderInOneRecord(t *testing.T) {
	l := api.Limits{Field: 3, Fields: 2, Records: 1, Uniform: true}
	for _, second := range [][]string{
		{"a", "b"}, {}, {"a"}, // alone, and ahead of ErrWidth
		{"a", "long"}, {"longer", "longer"}, // ahead of ErrField
		{"a", "b", "c"}, {"", "", "", "", "", ""}, // ahead of ErrFields and ErrWidth
		{"a", "long", "longer"}, {"a", "b", "c", "long"}, {"long", "b", "c", "d"}, // ahead of all
	} {
		wantFits(t, l, [][]string{{"a", "b"}, second}, 1, 0, api.ErrRecords)
	}
	l.Records = 2
	for _, second := range [][]string{{"a", "b", "c"}, {"a", "b", "long"}, {"long", "b", "c"}, {"a", "long", "c", "d"}, {"a", "b", "c", "d", "long"}, of(5, "long")} {
		wantFits(t, l, [][]string{{"a", "b"}, second}, 1, 2, api.ErrFields) // ahead of ErrField and of ErrWidth
		wantFits(t, l, [][]string{second, second}, 0, 2, api.ErrFields)
	}
	wantFits(t, l, [][]string{{"a", "b"}, {"long"}}, 1, 0, api.ErrField) // ahead of ErrWidth
	wantFits(t, l, [][]string{{"a"}, {"b", "long"}}, 1, 1, api.ErrField)
	wantFits(t, l, [][]string{{}, {"long", "b"}}, 1, 0, api.ErrField)
	l.Uniform = false
	wantFits(t, l, [][]string{{"a"}, {"long", "b", "c"}}, 1, 2, api.ErrFields)
	l.Records = 1
	wantFits(t, l, [][]string{{"a"}, {"b", "long"}}, 1, 0, api.ErrRecords)
	wantFits(t, l, [][]string{{"a"}, {"b", "c", "d"}}, 1, 0, api.ErrRecords)
}

// P13.1: Fits: the first record that doesn't fit is told, however much worse a later one does.
func TestFitsFirstRecord(t *testing.T) {
	l := api.Limits{Field: 3, Fields: 3, Records: 4, Uniform: true}
	a := []string{"a", "b"}
	wantFits(t, l, [][]string{a, {"b"}, {"c", "d", "e", "f"}, {"long"}, a, a}, 1, 0, api.ErrWidth)
	wantFits(t, l, [][]string{a, a, {"a", "long"}, {"c", "d", "e", "f"}, a, a}, 2, 1, api.ErrField)
	wantFits(t, l, [][]string{a, a, a, {"c", "d", "e", "f"}, a, {}}, 3, 3, api.ErrFields)
	wantFits(t, l, [][]string{a, a, a, {"a", "longer"}, {"c", "d", "e", "f"}}, 3, 1, api.ErrField)
	wantFits(t, l, [][]string{a, a, a, {}, {"c", "d", "e", "f"}}, 3, 0, api.ErrWidth)
	wantFits(t, l, [][]string{{"long"}, a, {"c", "d", "e", "f"}, a, a}, 0, 0, api.ErrField)
	wantFits(t, l, [][]string{{"c", "d", "e", "f"}, a, {"long"}, a, a}, 0, 3, api.ErrFields)
	wantFits(t, l, [][]string{a, {"b", "c", "d"}, {"longer", "longer"}}, 1, 0, api.ErrWidth)
	wantFits(t, l, [][]string{a, {"b", "long"}, {}, {"longer"}}, 1, 1, api.ErrField)
	l.Uniform = false
	wantFits(t, l, [][]string{a, {"b"}, {"c", "d", "e", "f"}, {"long"}, a, a}, 2, 3, api.ErrFields)
	wantFits(t, l, [][]string{a, {}, {"c", "d", "e"}, {"long"}, a, a}, 3, 0, api.ErrField)
	wantFits(t, l, [][]string{a, {}, {"c", "d", "e"}, {}, {"long"}, {"c", "d", "e", "f"}}, 4, 0, api.ErrRecords)
}

// P13.1: Fits: of several fields that have too many bytes the first one's number; bytes are counted, whatever they are.
func TestFitsFirstField(t *testing.T) {
	l := api.Limits{Field: 3, Fields: 5, Records: 5}
	for _, l.Uniform = range []bool{false, true} {
		wantFits(t, l, [][]string{{"a", "long", "longer", "long"}}, 0, 1, api.ErrField)
		wantFits(t, l, [][]string{{"a", "b", "c", "long", "longer"}}, 0, 3, api.ErrField)
		wantFits(t, l, [][]string{{"longest", "longer", "long"}}, 0, 0, api.ErrField)
		wantFits(t, l, [][]string{{"a", "b", "c"}, {"abc", "", "long"}, {"long", "b", "c"}}, 1, 2, api.ErrField)
		wantFits(t, l, [][]string{{"é", "é.", "€", "ééé"}}, 0, 3, api.ErrField)
		wantFits(t, l, [][]string{{"é", "éé", "€€"}}, 0, 1, api.ErrField)
		wantFits(t, l, [][]string{{"\xff\xff\xff", "\x80", "\xff\xff\xff\xff"}}, 0, 2, api.ErrField)
		wantFits(t, l, [][]string{{"\x00\x00\x00", "\"\"\"", ",\r\n", "\"\"\"\""}}, 0, 3, api.ErrField)
	}
}

// eachNarrow hands out all limits up to 3.
func eachNarrow(f func(api.Limits)) {
	for i := range 27 {
		l := api.Limits{Field: 1 + i%3, Fields: 1 + i/3%3, Records: 1 + i/9}
		f(l)
		l.Uniform = true
		f(l)
	}
}

// P13.1: Fits of all small tables within all narrow limits.
func TestFitsEverySmallTable(t *testing.T) {
	t.Parallel()
	check := func(x [][]string) { eachNarrow(func(l api.Limits) { checkFits(t, l, x) }) }
	eachList(lists([]string{"", "xx", "yyyy"}, 3), 2, check)
	eachList(lists([]string{"x", "xxx"}, 2), 3, check)
	eachList([]int{0, 1, 2, 4}, 4, func(fields []int) { check(numbered(fields...)) })
}

// P13.1: what fits is read within these limits as it was written; of what doesn't, the records ahead of the one that Fits tells.
func TestFitsAsReadersDo(t *testing.T) {
	t.Parallel()
	d := api.Dialect{Delim: ',', Quote: '"', End: api.LF}
	check := func(x [][]string) {
		text, n, e := write.Table(d, x)
		if n != len(x) || e != api.OK {
			t.Fatalf("%q isn't written: %d, %d", x, n, e)
		}
		eachNarrow(func(l api.Limits) {
			row, _, e := table.Fits(l, x)
			if e == api.OK {
				row = len(x)
			}
			read, fault := whole.Parse(d, l, text)
			if !table.Same(read, x[:row]) || (fault.Kind == api.OK) != (e == api.OK) {
				t.Fatalf("Fits(%v, %q): %d, %d; read so: %q, %v", l, x, row, e, read, fault)
			}
		})
	}
	some := lists([]string{"", "xx", "y,\"z"}, 2)[1:]
	eachList(some, 3, check)
	eachList([]int{1, 2, 3, 4}, 4, func(fields []int) { check(numbered(fields...)) })
}

// P13.1: Turn, written out.
func TestTurnWrittenOut(t *testing.T) {
	for _, c := range []struct{ from, to [][]string }{
		{nil, nil}, {[][]string{}, nil}, // of no records none
		{[][]string{{}}, nil}, {[][]string{nil}, nil}, {[][]string{{}, {}, nil}, nil}, // and of records of no fields, which have no columns
		{[][]string{{"a"}}, [][]string{{"a"}}}, {[][]string{{""}}, [][]string{{""}}},
		{[][]string{{"a", "b", "c"}}, [][]string{{"a"}, {"b"}, {"c"}}}, // one record
		{[][]string{{"a"}, {"b"}, {"c"}}, [][]string{{"a", "b", "c"}}}, // one column
		{[][]string{{"a", "b", "c"}, {"d", "e", "f"}}, [][]string{{"a", "d"}, {"b", "e"}, {"c", "f"}}},
		{[][]string{{"a", "b"}, {"c", "d"}, {"e", "f"}}, [][]string{{"a", "c", "e"}, {"b", "d", "f"}}},
		{[][]string{{"", "b"}, {"\xff", ""}, {"é", "b"}}, [][]string{{"", "\xff", "é"}, {"b", "", "b"}}},
		{[][]string{{"x", "x"}, {"x", "x"}, {"x", "x"}}, [][]string{{"x", "x", "x"}, {"x", "x", "x"}}},
	} {
		wantTurn(t, c.from, c.to, api.OK)
	}
}

// P13.1: Turn of tables that aren't even tells nothing else.
func TestTurnUneven(t *testing.T) {
	for _, fields := range [][]int{{0, 1}, {1, 0}, {1, 2}, {2, 1}, {2, 3, 3}, {4, 3, 3}, {3, 3, 2}, {3, 3, 4}, {3, 2, 3}, {3, 4, 3}, {0, 0, 1}, {1, 1, 0}, {1, 2, 3}, {2, 1, 3, 2}} {
		wantTurn(t, numbered(fields...), nil, api.ErrWidth)
	}
}

// P13.2: turned twice an even table of records with fields is what it was, and in between it has as many records as it had fields.
func TestTurnedTwice(t *testing.T) {
	check := func(x [][]string) {
		once, e := table.Turn(x)
		if e != api.OK || len(once) != len(x[0]) || len(once[0]) != len(x) {
			t.Fatalf("Turn(%q) = %q, %d", x, once, e)
		}
		wantTurn(t, once, x, api.OK)
		if twice, e := table.Turn(once); !table.Same(twice, x) || e != api.OK {
			t.Fatalf("%q turned twice: %q, %d", x, twice, e)
		}
	}
	for records := 1; records <= 12; records++ {
		for fields := 1; fields <= 12; fields++ {
			check(numbered(slices.Repeat([]int{fields}, records)...))
		}
	}
	for fields := 1; fields <= 3; fields++ {
		some := slices.DeleteFunc(lists([]string{"", "x"}, fields), func(r []string) bool { return len(r) != fields })
		eachList(some, 3, func(x [][]string) {
			if len(x) > 0 {
				check(x)
			}
		})
	}
}

// P13.1: Column, written out: each place, and places that some record lacks.
func TestColumnWrittenOut(t *testing.T) {
	x := [][]string{{"a", "b", "c"}, {"d", "", "f"}, {"g", "h", "\xff"}}
	wantColumn(t, x, 0, []string{"a", "d", "g"}, api.OK)
	wantColumn(t, x, 1, []string{"b", "", "h"}, api.OK)
	wantColumn(t, x, 2, []string{"c", "f", "\xff"}, api.OK)
	for _, n := range []int{3, 4, 100, api.MaxLimit, math.MaxInt} {
		wantColumn(t, x, n, nil, api.ErrWidth)
	}
	uneven := [][]string{{"a", "b", "c"}, {"d"}, {"e", "f"}}
	wantColumn(t, uneven, 0, []string{"a", "d", "e"}, api.OK)
	wantColumn(t, uneven, 1, nil, api.ErrWidth)
	wantColumn(t, uneven, 2, nil, api.ErrWidth)
	wantColumn(t, uneven, 3, nil, api.ErrWidth)
	for _, one := range [][]int{{1, 2, 2}, {2, 1, 2}, {2, 2, 1}, {0, 2, 2}, {2, 2, 0}, {1}} {
		wantColumn(t, numbered(one...), 1, nil, api.ErrWidth)
	}
	wantColumn(t, [][]string{{}}, 0, nil, api.ErrWidth)
	wantColumn(t, [][]string{{"a"}, nil}, 0, nil, api.ErrWidth)
	wantColumn(t, [][]string{{"a"}}, 0, []string{"a"}, api.OK)
}

// P13.1: Column of no records: each place from 0 on is there.
func TestColumnOfNoRecords(t *testing.T) {
	for _, n := range []int{0, 1, 7, api.MaxLimit, math.MaxInt} {
		wantColumn(t, nil, n, nil, api.OK)
		wantColumn(t, [][]string{}, n, nil, api.OK)
	}
}

// P13.1: Column of a place below 0 is asked ahead of what records lack, and of no records.
func TestColumnBelowNought(t *testing.T) {
	for _, n := range []int{-1, -2, -100, math.MinInt} {
		for _, x := range [][][]string{nil, {}, {{}}, {nil, {}}, {{"a"}}, {{"a", "b"}, {"c"}}, {{"a", "b"}, {"c", "d"}}} {
			wantColumn(t, x, n, nil, api.ErrArg)
		}
	}
}

// P13.1: Pick, written out: no places, places in any order, one several times; how many records is told.
func TestPickWrittenOut(t *testing.T) {
	x := [][]string{{"a", "b", "c"}, {"d", "", "f"}, {"g", "h", "\xff"}}
	for _, c := range []struct {
		places []int
		want   [][]string
	}{
		{nil, [][]string{{}, {}, {}}}, {[]int{}, [][]string{{}, {}, {}}},
		{[]int{0}, [][]string{{"a"}, {"d"}, {"g"}}}, {[]int{1}, [][]string{{"b"}, {""}, {"h"}}}, {[]int{2}, [][]string{{"c"}, {"f"}, {"\xff"}}},
		{[]int{0, 1, 2}, x}, {[]int{2, 1, 0}, [][]string{{"c", "b", "a"}, {"f", "", "d"}, {"\xff", "h", "g"}}}, {[]int{2, 0}, [][]string{{"c", "a"}, {"f", "d"}, {"\xff", "g"}}}, {[]int{0, 2}, [][]string{{"a", "c"}, {"d", "f"}, {"g", "\xff"}}},
		{[]int{1, 1}, [][]string{{"b", "b"}, {"", ""}, {"h", "h"}}}, {[]int{0, 2, 0, 0, 2}, [][]string{{"a", "c", "a", "a", "c"}, {"d", "f", "d", "d", "f"}, {"g", "\xff", "g", "g", "\xff"}}},
	} {
		wantPick(t, x, c.places, c.want, 3, api.OK)
	}
	uneven := [][]string{{"a", "b"}, {"c", "d", "e"}, {"f", "g"}}
	wantPick(t, uneven, []int{1, 0}, [][]string{{"b", "a"}, {"d", "c"}, {"g", "f"}}, 3, api.OK)
	wantPick(t, [][]string{{"a"}, {}, nil, {"b", "c"}}, nil, [][]string{{}, {}, {}, {}}, 4, api.OK)
	wantPick(t, [][]string{{"a", "b"}}, []int{1}, [][]string{{"b"}}, 1, api.OK)
	for _, places := range [][]int{nil, {0}, {5, 5}, {math.MaxInt, 0}} {
		wantPick(t, nil, places, nil, 0, api.OK)
		wantPick(t, [][]string{}, places, nil, 0, api.OK)
	}
}

// P13.1: Pick of a place that a record lacks: nothing, and the first such record's number.
func TestPickLacking(t *testing.T) {
	for _, c := range []struct {
		fields, places []int
		n              int
	}{
		{[]int{0}, []int{0}, 0}, {[]int{1}, []int{1}, 0}, {[]int{3}, []int{3}, 0}, {[]int{3}, []int{0, 1, 2, 3}, 0}, {[]int{3}, []int{3, 2, 1, 0}, 0}, {[]int{3}, []int{0, 3, 0}, 0}, {[]int{3}, []int{math.MaxInt}, 0}, {[]int{3}, []int{0, api.MaxLimit}, 0},
		{[]int{2, 2, 1}, []int{1}, 2}, {[]int{2, 1, 2}, []int{1}, 1}, {[]int{1, 2, 2}, []int{1}, 0}, {[]int{2, 0, 1}, []int{1}, 1}, {[]int{2, 1, 0}, []int{1}, 1}, {[]int{2, 2, 0}, []int{0}, 2},
		{[]int{3, 2, 1}, []int{0, 2}, 1}, {[]int{3, 2, 1}, []int{1, 0}, 2}, {[]int{3, 2, 1}, []int{1, 2}, 1}, {[]int{3, 2, 1}, []int{2, 1}, 1}, // the first record, not the first place that one lacks
		{[]int{3, 1, 2, 0}, []int{0, 1, 2}, 1}, {[]int{3, 3, 3, 2, 3, 1}, []int{2, 2}, 3}, {[]int{1, 1, 1, 1}, []int{0, 0, 0, 1}, 0},
	} {
		wantPick(t, numbered(c.fields...), c.places, nil, c.n, api.ErrWidth)
	}
}

// P13.1: Pick of a place below 0 is asked first, also where a record lacks another one, and of no records.
func TestPickBelowNought(t *testing.T) {
	tables := [][][]string{nil, {}, {{}}, {nil, {}}, {{"a"}}, {{"a", "b"}, {"c"}}, {{"a", "b"}, {"c", "d"}}, numbered(3, 3, 0)}
	for _, places := range [][]int{{-1}, {math.MinInt}, {0, -1}, {-1, 0}, {7, -1}, {-1, 7}, {0, 1, -3, 2}, {math.MaxInt, math.MinInt}, {-1, -1}} {
		for _, x := range tables {
			wantPick(t, x, places, nil, 0, api.ErrArg)
		}
	}
}

// P13.1: Pick of all small shapes, of all short lists of places.
func TestPickEverySmallShape(t *testing.T) {
	t.Parallel()
	all := lists([]int{-1, 0, 1, 2, 3}, 3)
	eachList([]int{0, 1, 2, 3}, 3, func(fields []int) {
		for _, places := range all {
			checkPick(t, numbered(fields...), places)
		}
	})
}

// P13.1: the calls agree: a column is what is picked of one place, and a record of the table turned; what is picked of all places in order is the table.
func TestCallsAgree(t *testing.T) {
	eachList([]int{0, 1, 2, 3}, 4, func(fields []int) {
		x := numbered(fields...)
		least, most := table.Widths(x)
		if table.Even(x) != (least == most) {
			t.Fatalf("Even and Widths of %q", x)
		}
		turned, e := table.Turn(x)
		if (e == api.OK) != table.Even(x) {
			t.Fatalf("Turn(%q): error %d", x, e)
		}
		var all []int
		for n := range most {
			all = append(all, n)
			column, e := table.Column(x, n)
			picked, _, err := table.Pick(x, []int{n})
			if e != err || (e == api.OK) != (n < least) {
				t.Fatalf("Column and Pick of %q, %d: errors %d, %d", x, n, e, err)
			}
			if !slices.Equal(column, slices.Concat(picked...)) {
				t.Fatalf("Column and Pick of %q, %d: %q, %q", x, n, column, picked)
			}
			if table.Even(x) && !table.Same([][]string{column}, turned[n:n+1]) {
				t.Fatalf("Column and Turn of %q, %d: %q, %q", x, n, column, turned)
			}
		}
		if picked, n, e := table.Pick(x, all); table.Even(x) && (!table.Same(picked, x) || n != len(x) || e != api.OK) {
			t.Fatalf("Pick(%q, %d) = %q, %d, %d", x, all, picked, n, e)
		}
	})
}

// randomTable is a table as chance has it: even, or nearly.
func randomTable(r *rand.Rand) [][]string {
	parts := []string{"", "a", "b", ",", "\"", "é", "\xff", "long enough"}
	fields := r.Intn(6)
	var x [][]string
	for range r.Intn(12) {
		n := fields
		if r.Intn(20) == 0 {
			n = r.Intn(8)
		}
		var record []string
		for range n {
			record = append(record, parts[r.Intn(len(parts))]+parts[r.Intn(len(parts))])
		}
		x = append(x, record)
	}
	return x
}

// P13.1: greater tables, as chance has it (always the same).
func TestGreaterTables(t *testing.T) {
	t.Parallel()
	r := rand.New(rand.NewSource(13))
	for range 3000 {
		x, y := randomTable(r), randomTable(r)
		checkTable(t, x)
		var places []int
		for range r.Intn(5) {
			places = append(places, r.Intn(7)-r.Intn(20)/19)
		}
		checkPick(t, x, places)
		checkFits(t, api.Limits{Field: 1 + r.Intn(24), Fields: 1 + r.Intn(8), Records: 1 + r.Intn(14), Uniform: r.Intn(2) == 0}, x)
		if len(x) > 0 && r.Intn(2) == 0 {
			y = table.Copy(x)
			if k := r.Intn(len(y)); len(y[k]) > 0 && r.Intn(2) == 0 {
				y[k][r.Intn(len(y[k]))] += "x"
			}
		}
		if want := spelt(x) == spelt(y); table.Same(x, y) != want || table.Same(y, x) != want {
			t.Fatalf("Same(%q, %q) isn't %v", x, y, want)
		}
	}
}

// P1: long tables, and wide ones, come to their end, and are told to their last field.
func TestLongTables(t *testing.T) {
	t.Parallel()
	const many = 200000
	long, wide := make([][]string, many), [][]string{of(many, "x"), of(many, "y")}
	for i := range long {
		long[i] = []string{"a", strconv.Itoa(i)}
	}
	for _, x := range [][][]string{long, wide} {
		copied := table.Copy(x)
		last := copied[len(copied)-1]
		last[len(last)-1] += "!"
		if table.Same(x, copied) || !table.Same(x, table.Copy(x)) || !table.Even(x) {
			t.Error("Same, Copy or Even of a long table")
		}
		once, _ := table.Turn(x)
		if twice, e := table.Turn(once); len(once) != len(x[0]) || !table.Same(twice, x) || e != api.OK {
			t.Error("Turn of a long table")
		}
	}
	l := api.Limits{Field: 6, Fields: 2, Records: many, Uniform: true}
	if row, col, e := table.Fits(l, long); row != 0 || col != 0 || e != api.OK {
		t.Error(row, col, e)
	}
	l.Records--
	if row, col, e := table.Fits(l, long); row != many-1 || col != 0 || e != api.ErrRecords {
		t.Error(row, col, e)
	}
	if column, e := table.Column(long, 1); len(column) != many || column[many-1] != strconv.Itoa(many-1) || e != api.OK {
		t.Error("Column of a long table")
	}
	long[many-1] = long[many-1][:1]
	if picked, n, e := table.Pick(long, []int{0, 1}); len(picked) != 0 || n != many-1 || e != api.ErrWidth {
		t.Error(n, e)
	}
	if picked, n, e := table.Pick(long, slices.Repeat([]int{0}, 20)); len(picked) != many || n != many || e != api.OK {
		t.Error(n, e)
	}
}
