// Package data has the values that a table holds, and its columns.
package data

import "strconv"

// Kind says what a column, or a value, is.
type Kind int

const (
	Int  Kind = 0
	Text Kind = 1
)

// Value is a number or a text; the field of the other kind is empty.
type Value struct {
	Kind   Kind
	Number int64
	Text   string
}

// Column is a column of a table; the first one of a table is its key.
type Column struct {
	Name string
	Kind Kind
}

// OfNumber makes a value of a number.
func OfNumber(n int64) Value { return Value{Kind: Int, Number: n} }

// OfText makes a value of a text.
func OfText(s string) Value { return Value{Kind: Text, Text: s} }

// Compare tells -1, 0 or 1, as v is less than w, the same, or greater.
// Values of two kinds never meet in a statement that is carried out; numbers
// are put ahead of texts so that the answer is settled for them too.
func (v Value) Compare(w Value) int {
	switch {
	case v.Kind != w.Kind:
		return sideOf(v.Kind < w.Kind)
	case v.Kind == Int && v.Number != w.Number:
		return sideOf(v.Number < w.Number)
	case v.Kind == Text && v.Text != w.Text:
		return sideOf(v.Text < w.Text)
	}
	return 0
}

func sideOf(less bool) int {
	if less {
		return -1
	}
	return 1
}

// Written is the value as a reply shows it.
func (v Value) Written() string {
	if v.Kind == Text {
		return "'" + v.Text + "'"
	}
	return strconv.FormatInt(v.Number, 10)
}

// Find tells the number of the first column of that name, or -1.
func Find(columns []Column, name string) int {
	for i := 0; i < len(columns); i++ {
		if columns[i].Name == name {
			return i
		}
	}
	return -1
}
