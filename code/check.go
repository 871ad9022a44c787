package code

import (
	"couplant/api"
	"couplant/base"
)

// CheckCode accepts a code, or returns the number of a wrong exception or row, and the error.
func CheckCode(c api.Code) (int, api.Errno) {
	e := base.FirstOf(
		base.NameError(c.Name),
		base.Unless(len(c.Except) <= api.MaxCodeRows, api.ErrLarge),
		base.Unless(len(c.Rows) <= api.MaxCodeRows, api.ErrLarge),
	)
	if e != api.OK {
		return 0, e
	}
	return wrongRow(numberedOf(c).rows)
}

// CheckMark accepts a mark.
func CheckMark(m api.CodeMark) api.Errno {
	_, e := base.FirstIn(len(m), func(quantity int) api.Errno {
		return numberError(m[quantity], quantity)
	})
	return e
}

// CheckBox accepts a box.
func CheckBox(b api.CodeBox) api.Errno {
	_, e := base.FirstIn(len(b), func(quantity int) api.Errno {
		return base.EndsError(b[quantity], 0, greatestOf[quantity])
	})
	return e
}

// codeError is the error of a code.
func codeError(c api.Code) api.Errno {
	_, e := CheckCode(c)
	return e
}

// codesError is the error of two codes.
func codesError(a, b api.Code) api.Errno { return base.FirstOf(codeError(a), codeError(b)) }

// wrongRow is the number of a wrong row, or 0, and the error.
func wrongRow(l rows) (int, api.Errno) {
	return base.FirstIn(len(l), func(n int) api.Errno {
		return base.FirstOf(CheckBox(l[n].Box), decisionError(l[n].Decision))
	})
}

// rowsError is the error of rows.
func rowsError(l rows) api.Errno {
	_, e := wrongRow(l)
	return e
}

// decisionError is the error of a decision.
func decisionError(decision int) api.Errno {
	return base.Unless(base.Within(decision, api.DecisionAccept, api.DecisionRepeat), api.ErrKind)
}

// numberError is the error of a number of a quantity.
func numberError(n, quantity int) api.Errno { return base.RangeError(n, 0, greatestOf[quantity]) }

// quantityError is the error of the number of a quantity.
func quantityError(quantity int) api.Errno {
	return base.Unless(base.Within(quantity, 0, api.CodeQuantity-1), api.ErrKind)
}

// weightsError is the error of weights.
func weightsError(weights [3]int) api.Errno {
	_, e := base.FirstIn(len(weights), func(n int) api.Errno {
		return base.RangeError(weights[n], 0, api.MaxCodeWeight)
	})
	return e
}
