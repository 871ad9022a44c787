package code

import (
	"iter"
	"slices"

	"couplant/api"
)

// rows are exceptions and rows: the first one that has a mark decides it.
type rows []api.CodeRow

// numbered is a code whose exceptions and rows stand at their numbers.
type numbered struct {
	rows
	exceptions int
}

// numberedOf is a right code by its numbers.
func numberedOf(c api.Code) numbered {
	return numbered{rows: slices.Concat(c.Except, c.Rows), exceptions: len(c.Except)}
}

// clash tells whether an exception or row and another one are a clash if they have a mark in common.
func (c numbered) clash(n, other int) bool {
	areTogether := (n < c.exceptions) == (other < c.exceptions)
	return areTogether && c.rows[n].Decision != c.rows[other].Decision
}

// deciding is the number of the row that decides a mark, or -1.
func (r rows) deciding(m api.CodeMark) int {
	return slices.IndexFunc(r, func(row api.CodeRow) bool { return has(row.Box, m) })
}

// cut yields the boxes, ascending, into which a box is cut along a quantity: each row has all of such a box along it, or nothing.
func (r rows) cut(b api.CodeBox, quantity int) iter.Seq[api.CodeBox] {
	return func(yield func(part api.CodeBox) bool) {
		part := b
		starts := r.starts(b[quantity], quantity)
		for n, start := range starts {
			part[quantity] = api.Range{Lo: start, Hi: b[quantity].Hi}
			if n+1 < len(starts) {
				part[quantity].Hi = starts[n+1] - 1
			}
			if !yield(part) {
				return
			}
		}
	}
}

// starts is the numbers of a range, ascending, at which it begins, or a row does, or behind which a row ends.
func (r rows) starts(whole api.Range, quantity int) []int {
	l := []int{whole.Lo}
	for _, row := range r {
		for _, start := range [2]int{row.Box[quantity].Lo, row.Box[quantity].Hi + 1} {
			if whole.Lo < start && start <= whole.Hi {
				l = append(l, start)
			}
		}
	}
	slices.Sort(l)
	return slices.Compact(l)
}
