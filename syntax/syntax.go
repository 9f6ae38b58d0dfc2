// Package syntax reads statements (P4).
package syntax

import "sqlproof/data"

// Act is what a statement does.
type Act int

const (
	Create Act = 1
	Insert Act = 2
	Update Act = 3
	Delete Act = 4
	Select Act = 5
)

// Show is what a select tells of the rows.
type Show int

const (
	Columns Show = 0 // the columns that are named
	All     Show = 1
	Count   Show = 2
	Sum     Show = 3 // of the one column that is named
)

// Statement is a statement as it is written; what an act has no use for is empty.
type Statement struct {
	Act     Act
	Table   string
	Columns []data.Column // of a create
	Values  []data.Value  // of an insert
	Sets    []Set         // of an update
	Show    Show          // of a select
	Items   []string      // of a select
	Where   []Step
}

// Term is a column's name, or, where the name is empty, a literal.
type Term struct {
	Column  string
	Literal data.Value
}

// Set is an assignment: one term, or two with a sign ("+" or "-") between them.
type Set struct {
	Column string
	First  Term
	Sign   string
	Second Term
}

// Step is a comparison of two terms, or one of "not", "and", "or". The steps of
// a condition lie behind what they join: `a = 1 or not b = 2` is the list
// a = 1, b = 2, not, or. So the comparisons keep their order, and a condition
// is told in one pass with a pile of what has been told so far.
type Step struct {
	Op    string
	Left  Term
	Right Term
}
