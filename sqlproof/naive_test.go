package sqlproof_test

import (
	"crypto/sha256"
	"encoding/binary"
	"sort"
)

// knot is a node of a second tree, built from the document in another way than
// the program's: it is turned where it stands, and mended from the leaf upwards.
type knot struct {
	kids   []*knot
	places []int64
	rows   []string
}

type wood struct {
	root    *knot
	wide    int
	touched map[*knot]bool // since start
}

// frame is a knot as it was at the start of a statement, and all below it.
type frame struct {
	knot  *knot
	kids  []*frame
	least int64
	count int
	bytes string
}

func (k *knot) size() int { return len(k.kids) + len(k.places) }

func (k *knot) least() int64 {
	for len(k.kids) > 0 {
		k = k.kids[0]
	}
	return k.places[0]
}

func (k *knot) count() int {
	n := len(k.places)
	for _, c := range k.kids {
		n += c.count()
	}
	return n
}

func five(place int64) []byte {
	return binary.BigEndian.AppendUint64(nil, uint64(place))[3:]
}

func (k *knot) bytes(wide int) []byte {
	if len(k.kids) == 0 {
		out := []byte{1, byte(len(k.places))}
		for i, p := range k.places {
			out = append(append(append(out, five(p)...), byte(len(k.rows[i]))), k.rows[i]...)
		}
		return out
	}
	out := []byte{2, byte(len(k.kids))}
	for _, c := range k.kids {
		sum := sha256.Sum256(c.bytes(wide))
		out = append(append(append(out, five(c.least())...), byte(c.count())), sum[:wide]...)
	}
	return out
}

func (w *wood) digest() string {
	sum := sha256.Sum256(w.root.bytes(w.wide))
	return string(sum[:w.wide])
}

func planted(wide int) *wood {
	return &wood{root: &knot{}, wide: wide, touched: map[*knot]bool{}}
}

func framed(k *knot, wide int) *frame {
	f := &frame{knot: k, count: k.count(), bytes: string(k.bytes(wide))}
	if k.size() > 0 {
		f.least = k.least()
	}
	for _, c := range k.kids {
		f.kids = append(f.kids, framed(c, wide))
	}
	return f
}

// start is ahead of a statement: nothing is touched yet. A knot that is turned where
// it stands was touched before that, so that it need not be told from a new one.
func (w *wood) start() *frame {
	w.touched = map[*knot]bool{}
	return framed(w.root, w.wide)
}

// look is P12's looking through.
func (w *wood) look(lo int64, hi int64) {
	w.touched[w.root] = true
	w.root.look(lo, hi, w.touched)
}

func (k *knot) look(lo int64, hi int64, touched map[*knot]bool) {
	for i, c := range k.kids {
		if c.least() <= hi && (i == len(k.kids)-1 || k.kids[i+1].least() > lo) {
			touched[c] = true
			c.look(lo, hi, touched)
		}
	}
}

// proof is P13's, with these knots open.
func (f *frame) proof(open map[*knot]bool, wide int) string {
	if !open[f.knot] {
		sum := sha256.Sum256([]byte(f.bytes))
		return "\x00" + string(sum[:wide])
	}
	if len(f.kids) == 0 {
		return f.bytes
	}
	out := f.bytes[:2]
	for _, c := range f.kids {
		out += string(five(c.least)) + string([]byte{byte(c.count)}) + c.proof(open, wide)
	}
	return out
}

// all are the knots of the tree.
func (f *frame) all() []*knot {
	list := []*knot{f.knot}
	for _, c := range f.kids {
		list = append(list, c.all()...)
	}
	return list
}

// path is the way to a place, from the root to the leaf; it is touched.
func (w *wood) path(place int64) []*knot {
	path := []*knot{w.root}
	for k := w.root; len(k.kids) > 0; {
		next := k.kids[0]
		for _, c := range k.kids {
			if c.least() <= place {
				next = c
			}
		}
		k = next
		path = append(path, k)
	}
	for _, k := range path {
		w.touched[k] = true
	}
	return path
}

func index(parent *knot, child *knot) int {
	for i, c := range parent.kids {
		if c == child {
			return i
		}
	}
	return -1
}

// halve leaves three of five in a knot, and gives the other two.
func (k *knot) halve() *knot {
	other := &knot{}
	if len(k.kids) > 0 {
		other.kids = append(other.kids, k.kids[3:]...)
		k.kids = k.kids[:3:3]
		return other
	}
	other.places = append(other.places, k.places[3:]...)
	other.rows = append(other.rows, k.rows[3:]...)
	k.places, k.rows = k.places[:3:3], k.rows[:3:3]
	return other
}

func inserted[T any](l []T, at int, x T) []T {
	return append(append(append([]T{}, l[:at]...), x), l[at:]...)
}

func removed[T any](l []T, at int) []T {
	return append(append([]T{}, l[:at]...), l[at+1:]...)
}

func (w *wood) put(place int64, row string) {
	path := w.path(place)
	k := path[len(path)-1]
	at := sort.Search(len(k.places), func(i int) bool { return k.places[i] >= place })
	if at < len(k.places) && k.places[at] == place {
		k.rows[at] = row
		return
	}
	k.places, k.rows = inserted(k.places, at, place), inserted(k.rows, at, row)
	for i := len(path) - 1; i >= 0 && path[i].size() == 5; i-- {
		other := path[i].halve()
		if i == 0 {
			w.root = &knot{kids: []*knot{path[0], other}}
			return
		}
		up := path[i-1]
		up.kids = inserted(up.kids, index(up, path[i])+1, other)
	}
}

func (w *wood) cut(place int64) {
	path := w.path(place)
	k := path[len(path)-1]
	for i, p := range k.places {
		if p == place {
			k.places, k.rows = removed(k.places, i), removed(k.rows, i)
			break
		}
	}
	for i := len(path) - 1; i > 0 && path[i].size() < 2; i-- {
		up := path[i-1]
		left := index(up, path[i])
		if left == len(up.kids)-1 {
			left--
		}
		a, b := up.kids[left], up.kids[left+1]
		w.touched[a], w.touched[b] = true, true
		a.kids, a.places, a.rows = append(a.kids, b.kids...), append(a.places, b.places...), append(a.rows, b.rows...)
		up.kids = removed(up.kids, left+1)
		if a.size() == 5 {
			up.kids = inserted(up.kids, left+1, a.halve())
		}
	}
	if len(w.root.kids) == 1 {
		w.root = w.root.kids[0]
	}
}

// tables0 are the places of table 0.
const tables0 = 1<<32 - 1

// at is the place of a key in the table of a number.
func at(table int, key int) int64 { return int64(table)<<32 + int64(key) + 1<<31 }

// four is a number as a row has it.
func four(n int) string {
	return string(binary.BigEndian.AppendUint32(nil, uint32(int64(n)+1<<31)))
}

func short(s string) string { return string([]byte{byte(len(s))}) + s }
