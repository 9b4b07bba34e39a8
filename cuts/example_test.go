package cuts_test

import (
	"fmt"

	"quillpen/cuts"
)

// What README.md shows.
func Example() {
	fmt.Printf("%q\n", cuts.At("abcd", 3, 1, 3))
	fmt.Printf("%q\n", cuts.At("abcd", -1, 9))
	fmt.Printf("%q\n", cuts.By("abcd", 1, 2))
	fmt.Printf("%q\n", cuts.Join([]string{"a", "", "bcd"}))
	fmt.Println(cuts.Count(3))
	fmt.Println(cuts.Count(17))
	for places := range cuts.Ways(3) {
		fmt.Println(places)
	}
	for pieces := range cuts.Each("abc") {
		fmt.Printf("%q\n", pieces)
	}
	// Output:
	// ["a" "bc" "" "d"]
	// ["" "abcd" ""]
	// ["a" "bc" "d"]
	// "abcd"
	// 4 0
	// 0 26
	// []
	// [1]
	// [2]
	// [1 2]
	// ["abc"]
	// ["a" "bc"]
	// ["ab" "c"]
	// ["a" "b" "c"]
}
