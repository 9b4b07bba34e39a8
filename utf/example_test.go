package utf_test

import (
	"fmt"

	"quillpen/api"
	"quillpen/utf"
)

// What README.md shows.
func Example() {
	fmt.Println(utf.Valid("a€"))
	fmt.Println(utf.Bad("a€") == api.Fault{})
	fmt.Println(utf.Bad("a\xe2\x28") == api.Fault{Kind: api.ErrUtf8, At: 2})
	fmt.Println(utf.Bad("a\xe2\x82") == api.Fault{Kind: api.ErrCut, At: 3})
	fmt.Println(utf.Longest("a\xe2\x82"))
	state, n := utf.Run(0, "a\xe2\x82")
	fmt.Println(state, n)
	fmt.Println(utf.Step(state, 0xac))
	fmt.Println(utf.Step(state, '('))
	// Output:
	// true
	// true
	// true
	// true
	// 1
	// 1 3
	// 0 true
	// 0 false
}
