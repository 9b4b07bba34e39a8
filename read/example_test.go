package read_test

import (
	"fmt"

	"quillpen/api"
	"quillpen/read"
)

// What README.md shows.
func Example() {
	d := api.Dialect{Delim: ',', Quote: '"', End: api.LF}
	l := api.Limits{Field: 100, Fields: 10, Records: 1000}
	r, _ := read.New(d, l)
	fmt.Println(r.Feed([]byte("a,\"b")), r.Count())
	fmt.Println(r.Feed([]byte("\"\nc")), r.Count())
	record, ok := r.Next()
	fmt.Printf("%q %v\n", record, ok)
	record, ok = r.Next()
	fmt.Printf("%q %v\n", record, ok)
	fmt.Println(r.Offset())
	fmt.Println(r.Close())
	for n, record := range r.Rows() {
		fmt.Printf("%d %q\n", n, record)
	}
	fmt.Println(r.Feed([]byte("d")), r.Closed(), r.Offset())

	r, _ = read.New(d, l)
	fmt.Println(r.Feed([]byte("a\nb\"c")))
	fmt.Println(r.Feed([]byte("d\n")), r.Offset())
	record, ok = r.Next()
	fmt.Printf("%q %v\n", record, ok)
	// Output:
	// {0 0} 0
	// {0 0} 1
	// ["a" "b"] true
	// [] false
	// 7
	// {0 0}
	// 1 ["c"]
	// {0 0} true 7
	// {4 3}
	// {4 3} 3
	// ["a"] true
}
