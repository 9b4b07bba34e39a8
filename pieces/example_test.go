package pieces_test

import (
	"fmt"

	"quillpen/api"
	"quillpen/pieces"
)

// What README.md shows.
func Example() {
	d := api.Dialect{Delim: ',', Quote: '"', End: api.LF}
	w, _ := pieces.New(d)
	fmt.Println(w.Put([]string{"a", "b"}))
	fmt.Printf("%q\n", w.Take(2))
	fmt.Printf("%q\n", w.Take(9))
	fmt.Println(w.Put(nil))
	fmt.Println(w.Put([]string{"c", "d,e"}))
	fmt.Println(w.Ready(), w.Count(), w.Total())
	w.Close()
	fmt.Println(w.Put([]string{"f"}))
	for piece := range w.Drain(4) {
		fmt.Printf("%q\n", piece)
	}
	// Output:
	// 0
	// "a,"
	// "b\n"
	// 13
	// 0
	// 8 2 12
	// 24
	// "c,\"d"
	// ",e\"\n"
}
