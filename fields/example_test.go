package fields_test

import (
	"fmt"

	"quillpen/api"
	"quillpen/fields"
	"quillpen/scan"
)

// What README.md shows.
func Example() {
	m, _ := fields.New(api.Limits{Field: 2, Fields: 3, Records: 4})
	fmt.Println(m.Take(scan.Event{Begin: true, Add: true, B: 'a'}))
	fmt.Println(m.Take(scan.Event{Field: true}))
	fmt.Println(m.Take(scan.Event{Add: true, B: 'b'}))
	fmt.Println(m.Open())
	fmt.Println(m.Begun(), m.Count())
	fmt.Println(m.Take(scan.Event{Line: true, Record: true}))
	fmt.Println(m.Begun(), m.Count())

	m, _ = fields.New(api.Limits{Field: 2, Fields: 3, Records: 4})
	m.Take(scan.Event{Begin: true, Add: true, B: 'a'})
	m.Take(scan.Event{Add: true, B: 'b'})
	_, _, e := m.Take(scan.Event{Add: true, B: 'c'})
	fmt.Println(e == api.ErrField, m.Stopped() == api.ErrField)
	_, _, e = m.Take(scan.Event{Field: true})
	fmt.Println(e == api.ErrField)
	fmt.Println(m.Open())

	m, e = fields.New(api.Limits{Field: 2, Fields: 3})
	fmt.Println(m, e == api.ErrLimits)
	// Output:
	// [] false 0
	// [] false 0
	// [] false 0
	// [a] b
	// 1 0
	// [a b] true 0
	// 1 1
	// true true
	// true
	// [] ab
	// <nil> true
}
