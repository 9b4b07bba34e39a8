package need_test

import (
	"fmt"

	"quillpen/api"
	"quillpen/need"
)

// What README.md shows.
func Example() {
	d := api.Dialect{Delim: ',', Quote: '"', End: api.LF}
	fmt.Println(need.Why(d, "a", false, false))
	fmt.Println(need.Why(d, "a,b", false, false))
	fmt.Println(need.Why(d, "a\"b", false, false))
	fmt.Println(need.Why(d, "a\nb", false, false))
	fmt.Println(need.Why(d, "", true, false))
	fmt.Println(need.Why(d, "\xef\xbb\xbfa", false, true))
	fmt.Println(need.Need(d, "a;b", false, false))
	fmt.Println(need.Fields(d, []string{"a", "b,c", ""}, true))
	fmt.Println(need.Fields(d, []string{""}, true))
	// Output:
	// 0
	// 1
	// 2
	// 3
	// 4
	// 5
	// false
	// [false true false]
	// [true]
}
