package scan_test

import (
	"fmt"

	"quillpen/api"
	"quillpen/scan"
)

// What README.md shows.
func Example() {
	d := api.Dialect{Delim: ',', Quote: '"', End: api.LF}
	e, state, _ := scan.Step(d, scan.Start, 'a')
	fmt.Println(e == scan.Event{Begin: true, Add: true, B: 'a'}, state == scan.Bare)
	_, _, err := scan.Step(d, state, '"')
	fmt.Println(err == api.ErrQuote)
	e, _ = scan.Close(state)
	fmt.Println(e == scan.Event{Line: true, Record: true})
	events, fault := scan.Run(d, "a\n")
	fmt.Println(len(events), events[1] == scan.Event{Line: true, Record: true}, fault == api.Fault{})
	events, fault = scan.Run(d, "\"a")
	fmt.Println(len(events), fault == api.Fault{Kind: api.ErrOpen, At: 2})
	// Output:
	// true true
	// true
	// true
	// 3 true true
	// 2 true
}
