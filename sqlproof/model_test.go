package sqlproof_test

import (
	"fmt"
	"math/rand"
	"sort"
	"strings"
	"testing"

	"sqlproof/sqlproof"
)

// model is table t (id int, a int, b text), kept in the most naive way.
type model map[int]record

type record struct {
	a int
	b string
}

// condition is a text, what it tells of a row, and its span, or that of its
// contrary (P12).
type condition struct {
	text string
	told func(id int, r record) bool
	span func(contrary bool) keys
}

type keys struct{ low, high int }

var everyKey = keys{-1 << 31, 1<<31 - 1}

func allKeys(bool) keys { return everyKey }

// keysOf are those that meet a comparison with n, found by trying the keys around
// it and the bounds.
func keysOf(n int, met func(key int) bool) keys {
	found := keys{1, 0}
	for _, k := range []int{1<<31 - 1, n + 1, n, n - 1, -1 << 31} {
		if !met(k) {
			continue
		}
		if found.low > found.high {
			found.high = k
		}
		found.low = k
	}
	return found
}

func bothSpans(a keys, b keys) keys {
	return keys{max(a.low, b.low), min(a.high, b.high)}
}

func eitherSpan(a keys, b keys) keys {
	switch {
	case a.low > a.high:
		return b
	case b.low > b.high:
		return a
	}
	return keys{min(a.low, b.low), max(a.high, b.high)}
}

const reach = 16 // keys are from -reach to reach - 1

var texts = []string{"", "x", "xy", "y"}

func ordered(sign string, side int) bool {
	switch sign {
	case "=":
		return side == 0
	case "<>":
		return side != 0
	case "<":
		return side < 0
	case "<=":
		return side <= 0
	case ">":
		return side > 0
	}
	return side >= 0
}

func comparison(r *rand.Rand) condition {
	sign := []string{"=", "<>", "<", "<=", ">", ">="}[r.Intn(6)]
	n, s := r.Intn(9)-4, texts[r.Intn(len(texts))]
	switch r.Intn(7) {
	case 0, 5:
		n = r.Intn(2*reach) - reach
		told := func(id int) bool { return ordered(sign, id-n) }
		return condition{fmt.Sprintf("id %s %d", sign, n), func(id int, _ record) bool { return told(id) },
			func(contrary bool) keys { return keysOf(n, func(k int) bool { return told(k) != contrary }) }}
	case 6:
		n = r.Intn(2*reach) - reach
		told := func(id int) bool { return ordered(sign, n-id) }
		return condition{fmt.Sprintf("%d %s id", n, sign), func(id int, _ record) bool { return told(id) },
			func(contrary bool) keys { return keysOf(n, func(k int) bool { return told(k) != contrary }) }}
	case 1:
		return condition{fmt.Sprintf("%d%sa", n, sign), func(_ int, row record) bool { return ordered(sign, n-row.a) }, allKeys}
	case 2:
		return condition{fmt.Sprintf("b %s '%s'", sign, s), func(_ int, row record) bool { return ordered(sign, strings.Compare(row.b, s)) }, allKeys}
	case 3:
		return condition{fmt.Sprintf("a %s id", sign), func(id int, row record) bool { return ordered(sign, row.a-id) }, allKeys}
	}
	return condition{fmt.Sprintf("'%s' %s b", s, sign), func(_ int, row record) bool { return ordered(sign, strings.Compare(s, row.b)) }, allKeys}
}

// Levels: 0 or, 1 and, 2 not. A condition stands in brackets just where its level
// is below the one that is asked for, so that the binding is put to the test.
func someCondition(r *rand.Rand, deep int, level int) condition {
	if deep == 0 || r.Intn(4) == 0 {
		return comparison(r)
	}
	own := r.Intn(3)
	var c condition
	switch own {
	case 0:
		x, y := someCondition(r, deep-1, 0), someCondition(r, deep-1, 1)
		c = condition{x.text + " or " + y.text, func(id int, row record) bool { return x.told(id, row) || y.told(id, row) }, func(contrary bool) keys {
			if contrary {
				return bothSpans(x.span(true), y.span(true))
			}
			return eitherSpan(x.span(false), y.span(false))
		}}
	case 1:
		x, y := someCondition(r, deep-1, 1), someCondition(r, deep-1, 2)
		c = condition{x.text + " and " + y.text, func(id int, row record) bool { return x.told(id, row) && y.told(id, row) }, func(contrary bool) keys {
			if contrary {
				return eitherSpan(x.span(true), y.span(true))
			}
			return bothSpans(x.span(false), y.span(false))
		}}
	default:
		x := someCondition(r, deep-1, 2)
		c = condition{"not " + x.text, func(id int, row record) bool { return !x.told(id, row) }, func(contrary bool) keys { return x.span(!contrary) }}
	}
	if own < level {
		c.text = "(" + c.text + ")"
	}
	return c
}

func somewhere(r *rand.Rand) condition {
	if r.Intn(8) == 0 {
		return condition{"", func(int, record) bool { return true }, allKeys}
	}
	for {
		c := someCondition(r, 3, 0)
		if len(c.text) < 90 {
			return condition{" where " + c.text, c.told, c.span}
		}
	}
}

func (m model) meeting(c condition) []int {
	var keys []int
	for id, row := range m {
		if c.told(id, row) {
			keys = append(keys, id)
		}
	}
	sort.Ints(keys)
	return keys
}

// deed is a statement, its reply, the keys through which it looks, and those of the
// rows that it puts or deletes, in their order.
type deed struct {
	sql, reply string
	seen       keys
	turned     []int
}

// step makes a statement and does it to the model.
func (m model) step(r *rand.Rand) deed {
	c := somewhere(r)
	keys, seen := m.meeting(c), c.span(false)
	switch r.Intn(6) {
	case 0, 1:
		return m.insert(r)
	case 2:
		if r.Intn(3) > 0 {
			return deed{"select count from t" + c.text, fmt.Sprintf("%d;", len(keys)), seen, nil}
		}
		for _, id := range keys {
			delete(m, id)
		}
		return deed{"delete from t" + c.text, fmt.Sprintf("%d;", len(keys)), seen, keys}
	case 3:
		for _, id := range keys {
			m[id] = record{id - m[id].a, "y"}
		}
		return deed{"update t set b = 'y', a = id - a" + c.text, fmt.Sprintf("%d;", len(keys)), seen, keys}
	case 4:
		total := 0
		for _, id := range keys {
			total += m[id].a
		}
		return deed{"select sum (a) from t" + c.text, fmt.Sprintf("%d;", total), seen, nil}
	}
	reply := ""
	for _, id := range keys {
		reply += fmt.Sprintf("'%s',%d,%d;", m[id].b, id, m[id].a)
	}
	return deed{"select b, id, a from t" + c.text, reply, seen, nil}
}

// insert needs the way to its place, where there is a row or not.
func (m model) insert(r *rand.Rand) deed {
	id, row := r.Intn(2*reach)-reach, record{r.Intn(9) - 4, texts[r.Intn(len(texts))]}
	sql := fmt.Sprintf("insert into t values (%d, %d, '%s')", id, row.a, row.b)
	if _, there := m[id]; there {
		return deed{sql, "!8", keys{id, id}, nil}
	}
	m[id] = row
	return deed{sql, "1;", keys{1, 0}, []int{id}}
}

// turn does to the naive tree what a step has done to the model.
func (m model) turn(w *wood, d deed) {
	w.look(0, tables0)
	if d.seen.low <= d.seen.high {
		w.look(at(2, d.seen.low), at(2, d.seen.high))
	}
	for _, id := range d.turned {
		if row, there := m[id]; there {
			w.put(at(2, id), four(row.a)+short(row.b))
		} else {
			w.cut(at(2, id))
		}
	}
}

// neighbours is a server and a naive tree with three tables, t between the others.
func neighbours(t *testing.T) (*sqlproof.Server, *wood) {
	s, w := filled(t, "create table u (k int)", "create table t (id int, a int, b text)", "create table v (k int)"), planted(16)
	w.put(at(0, 1), "\x01u\x01\x00\x01k")
	w.put(at(0, 2), "\x01t\x03\x00\x02id\x00\x01a\x01\x01b")
	w.put(at(0, 3), "\x01v\x01\x00\x01k")
	return s, w
}

// P6 to P15: long runs of statements beside the model, in a table with neighbours.
func TestAgainstModel(t *testing.T) {
	for seed := int64(0); seed < 30; seed++ {
		r, m := rand.New(rand.NewSource(seed)), model{}
		s, w := neighbours(t)
		for i := 0; i < 300; i++ {
			if i%25 == 7 {
				s.Run(fmt.Sprintf("insert into %c values (%d)", 'u'+i%2, i))
				w.put(at(1+i%2*2, i), "")
			}
			root, old := s.Root(), w.start()
			d := m.step(r)
			m.turn(w, d)
			peeked, ran := s.Peek(d.sql), s.Run(d.sql)
			if ran.Reply != d.reply || peeked != ran || ran.Root != w.digest() {
				t.Fatalf("P7: seed %d: Run(%q) = %q, root %x, want %q, %x; Peek %q, root %x", seed, d.sql, ran.Reply, ran.Root, d.reply, w.digest(), peeked.Reply, peeked.Root)
			}
			if proof := old.proof(w.touched, 16); ran.Proof != proof {
				t.Fatalf("P13: seed %d: the proof of %q is %x, want %x", seed, d.sql, ran.Proof, proof)
			}
			if next, ok := sqlproof.Check(16, root, d.sql, ran.Reply, ran.Proof); !ok || next != ran.Root {
				t.Fatalf("P15: seed %d: Check of %q = %x, %v, want %x", seed, d.sql, next, ok, ran.Root)
			}
		}
	}
}
