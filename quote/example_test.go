package quote_test

import (
	"fmt"

	"quillpen/api"
	"quillpen/quote"
)

// What README.md shows.
func Example() {
	d := api.Dialect{Delim: ',', Quote: '\'', End: api.LF}
	fmt.Println(quote.Quoted(d, "it's"))
	fmt.Println(quote.Written(d, "it's", false, false))
	fmt.Println(quote.Written(d, "its", false, false))
	fmt.Println(quote.Written(d, "", true, false))
	fmt.Println(quote.Unquote(d, "'it''s'"))
	fmt.Println(quote.Unquote(d, "its"))
	fmt.Println(quote.Unquote(d, "'it's'"))
	fmt.Println(quote.Unquote(d, "it's"))
	fmt.Println(quote.Size(d, "it's", false, false))
	fmt.Println(quote.Size(d, "its", false, false))
	// Output:
	// 'it''s'
	// 'it''s'
	// its
	// ''
	// it's true 0
	// its false 0
	//  false 4
	//  false 23
	// 7
	// 3
}
