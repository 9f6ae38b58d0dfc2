package engine

import (
	"strconv"

	"sqlproof/data"
	"sqlproof/store"
	"sqlproof/syntax"
)

// show is the reply to a select; it is told the rows that meet the condition.
func show(columns []data.Column, rows []store.Row, statement syntax.Statement) string {
	switch statement.Show {
	case syntax.Count:
		return counted(len(rows))
	case syntax.Sum:
		return summed(rows, placed(columns, statement.Items))
	case syntax.All:
		return listed(rows, upTo(len(columns)))
	}
	return listed(rows, placed(columns, statement.Items))
}

// placed is the numbers of the columns that are named.
func placed(columns []data.Column, items []string) []int {
	var numbers []int
	for i := 0; i < len(items); i++ {
		numbers = append(numbers, data.Find(columns, items[i]))
	}
	return numbers
}

// upTo is the numbers of all columns. It does not go by their names: in a tree
// that a proof tells two columns may have one name.
func upTo(count int) []int {
	var numbers []int
	for i := 0; i < count; i++ {
		numbers = append(numbers, i)
	}
	return numbers
}

// summed needs no bound: the numbers of 32 bits in any one tree fit an int64 with
// ease, when they are summed.
func summed(rows []store.Row, numbers []int) string {
	total := int64(0)
	for i := 0; i < len(rows); i++ {
		for j := 0; j < len(numbers); j++ {
			total += cellAt(rows[i], numbers[j]).Number
		}
	}
	return strconv.FormatInt(total, 10) + ";"
}

func listed(rows []store.Row, numbers []int) string {
	var reply []byte
	for i := 0; i < len(rows); i++ {
		for j := 0; j < len(numbers); j++ {
			if j > 0 {
				reply = append(reply, ',')
			}
			value := cellAt(rows[i], numbers[j])
			reply = append(reply, value.Written()...)
		}
		reply = append(reply, ';')
	}
	return string(reply)
}
