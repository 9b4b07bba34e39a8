package dialect_test

import (
	"fmt"

	"quillpen/api"
	"quillpen/dialect"
)

// What README.md shows.
func Example() {
	d := api.Dialect{Delim: ',', Quote: '"', End: api.CRLF}
	fmt.Println(dialect.Check(d) == api.OK)
	fmt.Printf("%q\n", dialect.End(d))
	fmt.Println(dialect.Text(d))
	parsed, e := dialect.Parse("2c 22 crlf")
	fmt.Println(parsed == d, e == api.OK)
	_, e = dialect.Parse("2c 2c lf")
	fmt.Println(e == api.ErrDialect)
	_, e = dialect.Parse("2C 22 lf")
	fmt.Println(e == api.ErrForm)
	fmt.Println(dialect.CheckLimits(dialect.Wide()) == api.OK)
	fmt.Println(dialect.CheckLimits(api.Limits{Field: 100}) == api.ErrLimits)
	// Output:
	// true
	// "\r\n"
	// 2c 22 crlf 0
	// true true
	// true
	// true
	// true
	// true
}
