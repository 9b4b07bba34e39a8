package whole_test

import (
	"fmt"

	"quillpen/api"
	"quillpen/whole"
)

// What README.md shows.
func Example() {
	d := api.Dialect{Delim: ',', Quote: '"', End: api.LF}
	l := api.Limits{Field: 100, Fields: 10, Records: 1000}
	fmt.Println(whole.Parse(d, l, "a,\"b\"\"c\"\n\nd"))
	fmt.Println(whole.Parse(d, l, "a\nb\"c\n"))
	fmt.Println(whole.First(d, l, "\"a"))
	fmt.Println(whole.Parses(d, "a\n"))
	for record := range whole.Records(d, l, "a\nb\nc") {
		if record[0] == "b" {
			break
		}
	}
	l.Uniform = true
	fmt.Println(whole.Parse(d, l, "a,b\nc\n"))
	// Output:
	// [[a b"c] [d]] {0 0}
	// [[a]] {4 3}
	// {11 2}
	// true
	// [[a b]] {10 5}
}
