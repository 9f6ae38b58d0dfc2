package sqlproof_test

import (
	"math/rand"
	"sort"
	"strings"
	"testing"

	"sqlproof/engine"
	"sqlproof/proofs"
	"sqlproof/sqlproof"
	"sqlproof/tree"
)

// anyPlaces are so many places that rise; most of them are of tables 0 to 3.
func anyPlaces(r *rand.Rand, many int) []int64 {
	seen := map[int64]bool{}
	var list []int64
	for len(list) < many {
		place := at(r.Intn(4), r.Intn(300)-100)
		switch r.Intn(8) {
		case 0, 1:
			place = at(0, 1+r.Intn(5))
		case 2:
			place = r.Int63n(1 << 40)
		}
		if place >= 0 && place < 1<<40 && !seen[place] {
			seen[place] = true
			list = append(list, place)
		}
	}
	sort.Slice(list, func(i, j int) bool { return list[i] < list[j] })
	return list
}

// anyRow is mostly what a row at such a place may be.
func anyRow(r *rand.Rand, place int64) string {
	switch {
	case r.Intn(40) == 0:
		return strings.Repeat("\xff", r.Intn(256))
	case place < 1<<32:
		return tableRow(string(rune('t'+r.Intn(3))), "0id", []string{"0a", "1a"}[r.Intn(2)], []string{"1b", "0a", "0id"}[r.Intn(3)])
	}
	return []string{four(5) + four(6), four(-1) + short("x"), short("x") + short(""), short("'") + four(7)}[r.Intn(4)]
}

// anyTree is a tree of such places, as deep as is asked for; all of it is open.
func anyTree(r *rand.Rand, deep int, places []int64) *bud {
	if deep == 0 {
		var list []entry
		for _, p := range places {
			list = append(list, entry{p, anyRow(r, p)})
		}
		return leafOf(list...)
	}
	least, most := 1<<deep, 1<<(2*deep) // rows of a child
	kids := 2 + r.Intn(3)
	for kids*least > len(places) || kids*most < len(places) {
		kids = 2 + r.Intn(3)
	}
	var list []*bud
	for left := kids - 1; left >= 0; left-- {
		low, high := max(least, len(places)-left*most), min(most, len(places)-left*least)
		many := low + r.Intn(high-low+1)
		list = append(list, anyTree(r, deep-1, places[:many]))
		places = places[many:]
	}
	return innerOf(list...)
}

// partly is the tree with some nodes shut.
func (b *bud) partly(r *rand.Rand, odds int) *bud {
	if r.Intn(odds) == 0 {
		return &bud{seal: b.digest(), first: b.first, many: b.many}
	}
	if b.kids == nil {
		return b
	}
	var kids []*bud
	for _, k := range b.kids {
		kids = append(kids, k.partly(r, odds))
	}
	return innerOf(kids...)
}

// P1, P15: over trees that no server would have, and of which any part is open, a
// Check ends; what it accepts of a part it accepts of the whole.
func TestP15AnyTree(t *testing.T) {
	list := strings.Split("select * from t|select a from u where id > 50|delete from t|delete from t where id <= 20|delete from u where not (id < 0)|update t set a = 5|update u set a = 'x' where id < 100 and id > 0|insert into t values (7, 7, 'x')|"+
		"insert into u values (200, 5, 5)|create table w (id int, b text)|create table t (id int)|select count from v where a = 5|select sum (id) from t|delete from v where id = 3 or id = 40|x", "|")
	r := rand.New(rand.NewSource(8))
	accepted, refused := 0, 0
	for i := 0; i < 1200; i++ {
		deep := r.Intn(4)
		many := []int{r.Intn(5), 4 + r.Intn(13), 8 + r.Intn(57), 16 + r.Intn(100)}[deep]
		whole := anyTree(r, deep, anyPlaces(r, many))
		part := whole.partly(r, 2+r.Intn(30))
		root := whole.digest()
		if part.digest() != root {
			t.Fatal("the part has another digest")
		}
		told, ok := proofs.Read(whole.proof(), oddWide)
		if !ok && len(whole.proof()) <= 6000 {
			t.Fatalf("P14: %x is no proof", whole.proof())
		}
		for _, sql := range list {
			reply, _ := engine.Run(told, sql, new(tree.Trail))
			next, ok := sqlproof.Check(oddWide, root, sql, reply, part.proof())
			if !ok {
				refused++
				if next != "" {
					t.Errorf("P15: Check of %q = %x, %v", sql, next, ok)
				}
				continue
			}
			accepted++
			if again, ok := sqlproof.Check(oddWide, root, sql, reply, whole.proof()); !ok || again != next {
				t.Errorf("P15: Check of %q = %x by the part, %x, %v by the whole", sql, next, again, ok)
			}
		}
	}
	if accepted < 1000 || refused < 1000 {
		t.Errorf("%d accepted, %d refused", accepted, refused)
	}
}

// P1: any texts at all end.
func TestP1Check(t *testing.T) {
	r := rand.New(rand.NewSource(2))
	s := filled(t, strings.Split(three, "|")...)
	proof := s.Peek("select * from t").Proof
	long := strings.Repeat("\x02\x02", 1<<20)
	for _, text := range []string{"", "\x00", long, "\x01", "\x02", proof} {
		for _, wide := range []int{-1, 0, 1, 4, 16, 32, 33} {
			for _, sql := range []string{"", long, "select * from t", "'"} {
				sqlproof.Check(wide, text, sql, text, text)
				sqlproof.Check(wide, s.Root(), sql, "", text)
			}
		}
	}
	// with a width of 1 about one in 256 turned proofs goes further than its digest
	accepted := 0
	for i := 0; i < 8000; i++ {
		b := []byte(proof)
		for k := 1 + r.Intn(3); k > 0; k-- {
			b[r.Intn(len(b))] = byte(r.Intn(256))
		}
		for _, sql := range []string{"select * from t", "delete from t", "update t set a = 1", "insert into t values (5, 5, '')", "create table u (id int)"} {
			for _, reply := range []string{"3;", "1;", "0;", "!4"} {
				if next, ok := sqlproof.Check(1, string([]byte{byte(i)}), sql, reply, string(b)); ok {
					accepted++
					if len(next) != 1 {
						t.Fatalf("P15: a digest of %d bytes", len(next))
					}
				}
			}
		}
	}
	if accepted == 0 {
		t.Error("no turned proof was accepted")
	}
}
