// Package dialect is layer 1: which bytes part fields, quote them, and end lines: see shared/doc/01-dialect.md.
package dialect

import "quillpen/api"

const digits = "0123456789abcdef"

// Check tells what is wrong with a dialect.
func Check(d api.Dialect) api.Errno {
	if !usable(d.Delim) || !usable(d.Quote) || d.Delim == d.Quote || word(d.End) == "" {
		return api.ErrDialect
	}
	return api.OK
}

// CheckLimits tells what is wrong with limits.
func CheckLimits(l api.Limits) api.Errno {
	if !within(l.Field) || !within(l.Fields) || !within(l.Records) {
		return api.ErrLimits
	}
	return api.OK
}

// End is a dialect's end of line.
func End(d api.Dialect) string {
	if Check(d) != api.OK {
		return ""
	}
	// Either is written as a line feed: only CRLF asks for more.
	if d.End == api.CRLF {
		return "\r\n"
	}
	return "\n"
}

// Text is a dialect's text.
func Text(d api.Dialect) (string, api.Errno) {
	if e := Check(d); e != api.OK {
		return "", e
	}
	return hex(d.Delim) + " " + hex(d.Quote) + " " + word(d.End), api.OK
}

// Parse is the dialect of a text.
func Parse(s string) (api.Dialect, api.Errno) {
	// Two digits, a blank, two digits, a blank: the word begins at 6.
	if len(s) < 6 || s[2] != ' ' || s[5] != ' ' {
		return api.Dialect{}, api.ErrForm
	}
	delim, delimOK := unhex(s[0], s[1])
	quote, quoteOK := unhex(s[3], s[4])
	end := ending(s[6:])
	if !delimOK || !quoteOK || end == 0 {
		return api.Dialect{}, api.ErrForm
	}
	d := api.Dialect{Delim: delim, Quote: quote, End: end}
	if e := Check(d); e != api.OK {
		return api.Dialect{}, e
	}
	return d, api.OK
}

// Wide is the greatest limits.
func Wide() api.Limits {
	return api.Limits{Field: api.MaxLimit, Fields: api.MaxLimit, Records: api.MaxLimit}
}

// usable tells whether a byte may be a Delim or a Quote: from 80 (hexadecimal) on
// it would stand within a sequence of UTF-8.
func usable(b byte) bool { return b < 0x80 && b != '\r' && b != '\n' }

func within(n int) bool { return n >= 1 && n <= api.MaxLimit }

// word is an end's word; nothing, if it is none.
func word(end int) string {
	switch end {
	case api.LF:
		return "lf"
	case api.CRLF:
		return "crlf"
	case api.Either:
		return "either"
	}
	return ""
}

// ending is the end of a word; 0, if it is none.
func ending(s string) int {
	switch s {
	case "lf":
		return api.LF
	case "crlf":
		return api.CRLF
	case "either":
		return api.Either
	}
	return 0
}

func hex(b byte) string { return string([]byte{digits[b>>4], digits[b&15]}) }

func unhex(high, low byte) (byte, bool) {
	h, highOK := digit(high)
	l, lowOK := digit(low)
	return h<<4 | l, highOK && lowOK
}

func digit(b byte) (byte, bool) {
	switch {
	case b >= '0' && b <= '9':
		return b - '0', true
	case b >= 'a' && b <= 'f':
		return b - 'a' + 10, true
	}
	return 0, false
}
