package engine

import (
	"strconv"

	"sqlproof/data"
	"sqlproof/store"
	"sqlproof/syntax"
)

// show is the reply to a select; it is told the rows that meet the condition.
func show(columns []data.Column, rows []store.Row, statement syntax.Statement) string {
	switch statement.Show {
	case syntax.Count:
		return counted(len(rows))
	case syntax.Sum:
		return summed(columns, rows, statement.Items)
	case syntax.All:
		return listed(columns, rows, namesOf(columns))
	}
	return listed(columns, rows, statement.Items)
}

// summed needs no bound: sixty numbers of 32 bits fit an int64 with ease.
func summed(columns []data.Column, rows []store.Row, items []string) string {
	total := int64(0)
	for i := 0; i < len(rows); i++ {
		for j := 0; j < len(items); j++ {
			total += cellOf(columns, rows[i], items[j]).Number
		}
	}
	return strconv.FormatInt(total, 10) + ";"
}

func listed(columns []data.Column, rows []store.Row, items []string) string {
	var reply []byte
	for i := 0; i < len(rows); i++ {
		for j := 0; j < len(items); j++ {
			if j > 0 {
				reply = append(reply, ',')
			}
			value := cellOf(columns, rows[i], items[j])
			reply = append(reply, value.Written()...)
		}
		reply = append(reply, ';')
	}
	return string(reply)
}

func namesOf(columns []data.Column) []string {
	var names []string
	for i := 0; i < len(columns); i++ {
		names = append(names, columns[i].Name)
	}
	return names
}
