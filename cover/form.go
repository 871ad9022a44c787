package cover

import (
	"couplant/api"
	"couplant/base"
)

// fault is an error in a line, and its column.
type fault struct {
	column int
	e      api.Errno
}

// wish tells the error of a word, if this is not what it is to be.
type wish func(word string) api.Errno

// exactly wishes for a word itself.
func exactly(word string) wish {
	return func(other string) api.Errno { return base.Unless(other == word, api.ErrSyntax) }
}

// numberError is the error of a word that is to be a number.
func numberError(word string) api.Errno {
	_, isNumber := base.Number(word, mostDigits)
	return base.Unless(isNumber, api.ErrSyntax)
}

// numberOf is the number that a word is.
func numberOf(w base.Word) int {
	n, _ := base.Number(w.Text, mostDigits)
	return n
}

// faultAt is the fault of a word with an error.
func faultAt(w base.Word, e api.Errno) fault { return fault{column: w.Column, e: e} }

// firstFault is the first one of some faults that has an error, or none.
func firstFault(faults ...fault) fault {
	for _, f := range faults {
		if f.e != api.OK {
			return f
		}
	}
	return fault{}
}

// formFault is the first fault of words, of which there is at least one, that are to have a form, or none.
func formFault(words []base.Word, form ...wish) fault {
	for n, errorOf := range form {
		if n == len(words) {
			return fault{column: words[n-1].End(), e: api.ErrMissing}
		}
		if e := errorOf(words[n].Text); e != api.OK {
			return faultAt(words[n], e)
		}
	}
	if len(words) > len(form) {
		return faultAt(words[len(form)], api.ErrSyntax)
	}
	return fault{}
}
