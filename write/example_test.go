package write_test

import (
	"fmt"

	"quillpen/api"
	"quillpen/write"
)

// What README.md shows.
func Example() {
	d := api.Dialect{Delim: ',', Quote: '"', End: api.LF}
	show := func(s string, rest ...any) { fmt.Println(append([]any{fmt.Sprintf("%q", s)}, rest...)...) }
	line := func(r []string, first bool) {
		s, e := write.Line(d, r, first)
		show(s, e)
	}
	line([]string{"a", "b,c", ""}, true)
	line([]string{""}, false)
	line(nil, false)
	line([]string{"a", "\xff"}, false)
	text, n, e := write.Table(d, [][]string{{"a", "b"}, {"it's", ""}})
	show(text, n, e)
	text, n, e = write.Table(d, [][]string{{"a", "b"}, {}, {"c"}})
	show(text, n, e)
	for i, s := range write.Lines(d, [][]string{{"a"}, {"b"}, {}, {"c"}}) {
		show(s, i)
	}
	fmt.Println(write.Size(d, [][]string{{"a"}, {"b"}, {}, {"c"}}))
	// Output:
	// "a,\"b,c\",\n" 0
	// "\"\"\n" 0
	// "" 13
	// "" 14
	// "a,b\nit's,\n" 2 0
	// "" 1 13
	// "a\n" 0
	// "b\n" 1
	// 4
}
