package bom_test

import (
	"fmt"

	"quillpen/bom"
)

// What README.md shows.
func Example() {
	text, had := bom.Strip("\xef\xbb\xbfa,b")
	fmt.Println(text, had)
	s := bom.New()
	fmt.Printf("%q %d\n", s.Feed([]byte("\xef\xbb")), s.Held())
	fmt.Printf("%q %d\n", s.Feed([]byte("\xbfa,")), s.Held())
	fmt.Printf("%q\n", s.Feed([]byte("b")))
	fmt.Println(s.Stripped())
	s = bom.New()
	fmt.Printf("%q\n", s.Feed([]byte("\xef\xbb")))
	fmt.Printf("%q %v\n", s.Close(), s.Stripped())
	// Output:
	// a,b true
	// "" 2
	// "a," 0
	// "b"
	// true
	// ""
	// "\xef\xbb" false
}
