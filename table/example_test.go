package table_test

import (
	"fmt"

	"quillpen/api"
	"quillpen/table"
)

// What README.md shows.
func Example() {
	t := [][]string{{"id", "name"}, {"1", "x"}, {"2", "yy"}}
	show := func(t any, rest ...any) { fmt.Println(append([]any{fmt.Sprintf("%q", t)}, rest...)...) }
	fmt.Println(table.Same(t, table.Copy(t)))
	fmt.Println(table.Even(t))
	fmt.Println(table.Widths([][]string{{"a"}, {"b", "c"}}))
	turned, e := table.Turn(t)
	show(turned, e)
	column, e := table.Column(t, 1)
	show(column, e)
	column, e = table.Column(t, 2)
	show(column, e)
	picked, n, e := table.Pick(t, []int{1, 0, 1})
	show(picked, n, e)
	picked, n, e = table.Pick([][]string{{"a", "b"}, {"c"}}, []int{1})
	show(picked, n, e)
	l := api.Limits{Field: 4, Fields: 2, Records: 3, Uniform: true}
	fmt.Println(table.Fits(l, t))
	l.Field = 1
	fmt.Println(table.Fits(l, t))
	l.Fields = 1
	fmt.Println(table.Fits(l, t))
	// Output:
	// true
	// true
	// 1 2
	// [["id" "1" "2"] ["name" "x" "yy"]] 0
	// ["name" "x" "yy"] 0
	// [] 10
	// [["name" "id" "name"] ["x" "1" "x"] ["yy" "2" "yy"]] 3 0
	// [] 1 10
	// 0 0 0
	// 0 0 7
	// 0 1 8
}
