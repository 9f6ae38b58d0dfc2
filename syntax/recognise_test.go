package syntax

import (
	"math/rand"
	"regexp"
	"strings"
	"testing"

	"sqlproof/api"
)

// A second reader of the grammar, by patterns alone: words become letters, and a
// condition is a list of letters that shrinks to one.
var (
	oneWord = regexp.MustCompile(`^(?:[a-z][a-z0-9]*|[0-9]+|'[ -&(-~]*'|<>|<=|>=|[(),*=+<>-]|[ \n])`)
	marks   = map[string]string{
		"create": "C", "table": "B", "insert": "I", "into": "J", "values": "V", "update": "U", "set": "S", "where": "W", "delete": "D", "from": "F", "select": "E",
		"and": "A", "or": "O", "not": "N", "int": "K", "text": "X", "count": "Q", "sum": "Z",
		"<>": "c", "<=": "c", ">=": "c", "<": "c", ">": "c", "=": "=",
	}
	lit    = `(?:-?d|q)`
	term   = `(?:n|-?d|q)`
	sum    = term + `(?:[+-]` + term + `)?`
	whole  = regexp.MustCompile(`^(?:CBn\(nK(?:,n[KX])*\)|IJnV\(` + lit + `(?:,` + lit + `)*\)|(?:UnSn=` + sum + `(?:,n=` + sum + `)*|DFn|E(?:\*|Q|Z\(n\)|n(?:,n)*)Fn)(?:W(.+))?)$`)
	shrink = []*regexp.Regexp{regexp.MustCompile(term + `[c=]` + term), regexp.MustCompile(`N+Y|\(Y\)`), regexp.MustCompile(`Y[AO]Y`)}
)

func letterOf(word string) (string, bool) {
	if l, ok := marks[word]; ok {
		return l, true
	}
	switch c := word[0]; {
	case c == ' ' || c == '\n':
		return "", true
	case c >= 'a' && c <= 'z':
		return "n", len(word) <= 8
	case c >= '0' && c <= '9':
		return "d", len(word) <= 9
	case c == '\'':
		return "q", len(word) <= 14
	}
	return word, true
}

func recognise(sql string) bool {
	letters := ""
	for sql != "" {
		word := oneWord.FindString(sql)
		if word == "" {
			return false
		}
		l, ok := letterOf(word)
		if !ok {
			return false
		}
		letters += l
		sql = sql[len(word):]
	}
	found := whole.FindStringSubmatch(letters)
	return found != nil && (found[1] == "" || shrinks(found[1]))
}

func shrinks(where string) bool {
	// a letter Y in the text itself cannot be: no word becomes one
	where = shrink[0].ReplaceAllString(where, "Y")
	for last := ""; last != where; {
		last = where
		where = shrink[1].ReplaceAllString(where, "Y")
		where = shrink[2].ReplaceAllString(where, "Y")
	}
	return where == "Y"
}

var seeds = []string{
	"create table t ( id int , a int , b text )",
	"insert into t values ( 2 , - 5 , 'x' )",
	"update t set a = a + 1 , b = 'y' where id > 0 or not b = 'x'",
	"delete from t where ( id = 2 or a < - 1 ) and not not 'a' <> b",
	"select a , b from t where a <= 1 and ( b >= 'c' )",
	"select sum ( a ) from t where id = 1",
	"select * from t where not ( id = 1 )",
	"select count from t",
}

var spare = []string{"create", "table", "insert", "into", "values", "update", "set", "where", "delete", "from", "select", "and", "or", "not", "int", "text", "count", "sum",
	"a", "id", "abcdefgh", "abcdefghi", "1", "999999999", "1234567890", "'x'", "''", "'thirteen byte'", "(", ")", ",", "*", "=", "+", "-", "<", ">", "<>", "<=", ">=", "1a", ";", "A"}

// P4: Parse takes just what the grammar has, here over statements with a word or
// two left out, put in, turned or swapped.
func TestAgainstPatterns(t *testing.T) {
	r := rand.New(rand.NewSource(4))
	taken := 0
	const rounds = 60000
	for i := 0; i < rounds; i++ {
		list := strings.Split(seeds[r.Intn(len(seeds))], " ")
		for k := r.Intn(3); k > 0; k-- {
			list = turned(r, list)
		}
		sql := strings.Join(list, []string{" ", "\n", "  ", ""}[r.Intn(4)])
		if len(sql) > api.MaxSQL {
			continue
		}
		want := recognise(sql)
		if _, e := Parse(sql); (e == api.OK) != want {
			t.Fatalf("P4: Parse(%q) = %d, the grammar says %v", sql, e, want)
		}
		if want {
			taken++
		}
	}
	if taken < rounds/10 || taken > rounds*9/10 {
		t.Errorf("%d of %d texts were statements: the test tells too little", taken, rounds)
	}
}

func turned(r *rand.Rand, list []string) []string {
	if len(list) == 0 {
		return list
	}
	at, word := r.Intn(len(list)), spare[r.Intn(len(spare))]
	out := append([]string{}, list[:at]...)
	switch r.Intn(4) {
	case 0:
		return append(out, list[at+1:]...)
	case 1:
		return append(append(out, word), list[at:]...)
	case 2:
		return append(append(out, word), list[at+1:]...)
	}
	out = append([]string{}, list...)
	other := r.Intn(len(list))
	out[at], out[other] = out[other], out[at]
	return out
}
