package console

import (
	"iter"
	"strconv"
	"strings"

	"tendril/api"
)

const (
	blanks = " \t\r"
	digits = 6 // of a number, at most
)

// line is a line that is carried out.
type line struct {
	command string
	rest    string
}

// lines gives the lines of a text but those that are passed over.
func lines(text string) iter.Seq[line] {
	return func(yield func(line) bool) {
		for whole := range strings.SplitSeq(text, "\n") {
			command, rest := cut(strings.Trim(whole, blanks))
			if command == "" || command[0] == '%' {
				continue
			}
			if !yield(line{command, rest}) {
				return
			}
		}
	}
}

// cut parts a text at its first row of blanks.
func cut(text string) (string, string) {
	at := strings.IndexAny(text, blanks)
	if at < 0 {
		return text, ""
	}
	return text[:at], strings.TrimLeft(text[at:], blanks)
}

// number is the number that a text is, if it is one.
func number(text string) (int, bool) {
	if len(text) > digits || strings.Trim(text, "0123456789") != "" || len(text) > 1 && text[0] == '0' {
		return 0, false
	}
	n, err := strconv.Atoi(text)
	return n, err == nil
}

// bare is the fault of a line that has something where nothing may be.
func (l line) bare() error {
	if l.rest != "" {
		return l.fault(api.ErrArgument)
	}
	return nil
}

func (l line) fault(code api.Errno) error {
	return &api.Fault{Code: code, At: -1, Name: l.command}
}
