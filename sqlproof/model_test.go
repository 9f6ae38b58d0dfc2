package sqlproof_test

import (
	"fmt"
	"math/rand"
	"sort"
	"strings"
	"testing"
)

// model is table t (id int, a int, b text), kept in the most naive way.
type model map[int]record

type record struct {
	a int
	b string
}

// condition is a text, and what it tells of a row.
type condition struct {
	text string
	told func(id int, r record) bool
}

const reach = 16 // keys are from -reach to reach - 1

var texts = []string{"", "x", "xy", "y"}

func ordered(sign string, side int) bool {
	switch sign {
	case "=":
		return side == 0
	case "<>":
		return side != 0
	case "<":
		return side < 0
	case "<=":
		return side <= 0
	case ">":
		return side > 0
	}
	return side >= 0
}

func comparison(r *rand.Rand) condition {
	sign := []string{"=", "<>", "<", "<=", ">", ">="}[r.Intn(6)]
	n, s := r.Intn(9)-4, texts[r.Intn(len(texts))]
	switch r.Intn(5) {
	case 0:
		n = r.Intn(2*reach) - reach
		return condition{fmt.Sprintf("id %s %d", sign, n), func(id int, _ record) bool { return ordered(sign, id-n) }}
	case 1:
		return condition{fmt.Sprintf("%d%sa", n, sign), func(_ int, row record) bool { return ordered(sign, n-row.a) }}
	case 2:
		return condition{fmt.Sprintf("b %s '%s'", sign, s), func(_ int, row record) bool { return ordered(sign, strings.Compare(row.b, s)) }}
	case 3:
		return condition{fmt.Sprintf("a %s id", sign), func(id int, row record) bool { return ordered(sign, row.a-id) }}
	}
	return condition{fmt.Sprintf("'%s' %s b", s, sign), func(_ int, row record) bool { return ordered(sign, strings.Compare(s, row.b)) }}
}

// Levels: 0 or, 1 and, 2 not. A condition stands in brackets just where its level
// is below the one that is asked for, so that the binding is put to the test.
func someCondition(r *rand.Rand, deep int, level int) condition {
	if deep == 0 || r.Intn(4) == 0 {
		return comparison(r)
	}
	own := r.Intn(3)
	var c condition
	switch own {
	case 0:
		x, y := someCondition(r, deep-1, 0), someCondition(r, deep-1, 1)
		c = condition{x.text + " or " + y.text, func(id int, row record) bool { return x.told(id, row) || y.told(id, row) }}
	case 1:
		x, y := someCondition(r, deep-1, 1), someCondition(r, deep-1, 2)
		c = condition{x.text + " and " + y.text, func(id int, row record) bool { return x.told(id, row) && y.told(id, row) }}
	default:
		x := someCondition(r, deep-1, 2)
		c = condition{"not " + x.text, func(id int, row record) bool { return !x.told(id, row) }}
	}
	if own < level {
		c.text = "(" + c.text + ")"
	}
	return c
}

func somewhere(r *rand.Rand) condition {
	if r.Intn(8) == 0 {
		return condition{"", func(int, record) bool { return true }}
	}
	for {
		c := someCondition(r, 3, 0)
		if len(c.text) < 90 {
			return condition{" where " + c.text, c.told}
		}
	}
}

func (m model) meeting(c condition) []int {
	var keys []int
	for id, row := range m {
		if c.told(id, row) {
			keys = append(keys, id)
		}
	}
	sort.Ints(keys)
	return keys
}

// step makes a statement, does it to the model, and tells the reply and the keys
// of the rows that are put or deleted.
func (m model) step(r *rand.Rand) (string, string, []int) {
	c := somewhere(r)
	keys := m.meeting(c)
	switch r.Intn(6) {
	case 0, 1:
		id, row := r.Intn(2*reach)-reach, record{r.Intn(9) - 4, texts[r.Intn(len(texts))]}
		sql := fmt.Sprintf("insert into t values (%d, %d, '%s')", id, row.a, row.b)
		if _, there := m[id]; there {
			return sql, "!8", nil
		}
		m[id] = row
		return sql, "1;", []int{id}
	case 2:
		if r.Intn(3) > 0 {
			return "select count from t" + c.text, fmt.Sprintf("%d;", len(keys)), nil
		}
		for _, id := range keys {
			delete(m, id)
		}
		return "delete from t" + c.text, fmt.Sprintf("%d;", len(keys)), keys
	case 3:
		for _, id := range keys {
			m[id] = record{id - m[id].a, "y"}
		}
		return "update t set b = 'y', a = id - a" + c.text, fmt.Sprintf("%d;", len(keys)), keys
	case 4:
		total := 0
		for _, id := range keys {
			total += m[id].a
		}
		return "select sum (a) from t" + c.text, fmt.Sprintf("%d;", total), nil
	}
	reply := ""
	for _, id := range keys {
		reply += fmt.Sprintf("'%s',%d,%d;", m[id].b, id, m[id].a)
	}
	return "select b, id, a from t" + c.text, reply, nil
}

// turn does to the naive tree what a step has done to the model.
func (m model) turn(w *wood, keys []int) {
	for _, id := range keys {
		if row, there := m[id]; there {
			w.put(at(2, id), four(row.a)+short(row.b))
		} else {
			w.cut(at(2, id))
		}
	}
}

// P6 to P11: long runs of statements beside the model, in a table with neighbours.
func TestAgainstModel(t *testing.T) {
	for seed := int64(0); seed < 40; seed++ {
		r := rand.New(rand.NewSource(seed))
		s, m, w := filled(t, "create table u (k int)", "create table t (id int, a int, b text)", "create table v (k int)"), model{}, &wood{&knot{}, 16}
		w.put(at(0, 1), "\x01u\x01\x00\x01k")
		w.put(at(0, 2), "\x01t\x03\x00\x02id\x00\x01a\x01\x01b")
		w.put(at(0, 3), "\x01v\x01\x00\x01k")
		for i := 0; i < 300; i++ {
			if i%25 == 7 {
				s.Run(fmt.Sprintf("insert into %c values (%d)", 'u'+i%2, i))
				w.put(at(1+i%2*2, i), "")
			}
			sql, want, keys := m.step(r)
			m.turn(w, keys)
			peeked, ran := s.Peek(sql), s.Run(sql)
			if ran.Reply != want || peeked != ran || ran.Root != w.digest() {
				t.Fatalf("P7: seed %d: Run(%q) = %q, root %x, want %q, %x; Peek %q, root %x", seed, sql, ran.Reply, ran.Root, want, w.digest(), peeked.Reply, peeked.Root)
			}
		}
	}
}
