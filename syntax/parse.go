package syntax

import (
	"sqlproof/api"
	"sqlproof/data"
	"sqlproof/words"
)

// parser goes through the words once. After the first word that does not fit,
// bad stays set and no word is found any more, so that every loop ends.
type parser struct {
	list []words.Word
	at   int
	bad  bool
	out  Statement
}

// Parse reads a statement; else it answers ErrLong or ErrParse. The bound on the
// length comes first: it bounds how deep a condition can nest.
func Parse(sql string) (Statement, api.Errno) {
	if len(sql) > api.MaxSQL {
		return Statement{}, api.ErrLong
	}
	list, ok := words.Split(sql)
	if !ok {
		return Statement{}, api.ErrParse
	}
	p := parser{list: list}
	p.statement()
	if p.bad || p.at != len(p.list) {
		return Statement{}, api.ErrParse
	}
	return p.out, api.OK
}

// next looks at the next word without stepping over it.
func (p *parser) next() words.Word {
	if p.bad || p.at < 0 || p.at >= len(p.list) {
		return words.Word{}
	}
	return p.list[p.at]
}

// take steps over the next word; where there is none the text is no statement.
func (p *parser) take() words.Word {
	word := p.next()
	if word.Kind == words.None {
		p.bad = true
		return word
	}
	p.at++
	return word
}

// accept steps over a keyword or sign, if that is the next word.
func (p *parser) accept(mark string) bool {
	word := p.next()
	if word.Kind != words.Mark || word.Text != mark {
		return false
	}
	p.at++
	return true
}

func (p *parser) want(mark string) {
	if !p.accept(mark) {
		p.bad = true
	}
}

func (p *parser) name() string {
	word := p.take()
	if word.Kind != words.Name {
		p.bad = true
		return ""
	}
	return word.Text
}

// mark answers the keyword or sign that is next; "", if it is another word.
func (p *parser) mark() string {
	word := p.take()
	if word.Kind != words.Mark {
		return ""
	}
	return word.Text
}

func (p *parser) statement() {
	first := p.mark()
	switch first {
	case "create":
		p.create()
	case "insert":
		p.insert()
	case "update":
		p.update()
	case "delete":
		p.delete()
	case "select":
		p.choose()
	default:
		p.bad = true
	}
}

func (p *parser) create() {
	p.out.Act = Create
	p.want("table")
	p.out.Table = p.name()
	p.want("(")
	key := p.name()
	p.want("int")
	p.out.Columns = append(p.out.Columns, data.Column{Name: key, Kind: data.Int})
	for p.accept(",") {
		name := p.name()
		kind := p.kind()
		p.out.Columns = append(p.out.Columns, data.Column{Name: name, Kind: kind})
	}
	p.want(")")
}

func (p *parser) kind() data.Kind {
	if p.accept("text") {
		return data.Text
	}
	p.want("int")
	return data.Int
}

func (p *parser) insert() {
	p.out.Act = Insert
	p.want("into")
	p.out.Table = p.name()
	p.want("values")
	p.want("(")
	p.value()
	for p.accept(",") {
		p.value()
	}
	p.want(")")
}

func (p *parser) value() {
	value := p.literal()
	p.out.Values = append(p.out.Values, value)
}

func (p *parser) update() {
	p.out.Act = Update
	p.out.Table = p.name()
	p.want("set")
	p.assignment()
	for p.accept(",") {
		p.assignment()
	}
	p.where()
}

func (p *parser) assignment() {
	var set Set
	set.Column = p.name()
	p.want("=")
	set.First = p.term()
	if p.accept("+") {
		set.Sign = "+"
	} else if p.accept("-") {
		set.Sign = "-"
	}
	if set.Sign != "" {
		set.Second = p.term()
	}
	p.out.Sets = append(p.out.Sets, set)
}

func (p *parser) delete() {
	p.out.Act = Delete
	p.want("from")
	p.out.Table = p.name()
	p.where()
}

// choose reads a select; that word itself is one of Go's.
func (p *parser) choose() {
	p.out.Act = Select
	if p.accept("*") {
		p.out.Show = All
	} else if p.accept("count") {
		p.out.Show = Count
	} else if p.accept("sum") {
		p.out.Show = Sum
		p.want("(")
		p.item()
		p.want(")")
	} else {
		p.items()
	}
	p.want("from")
	p.out.Table = p.name()
	p.where()
}

func (p *parser) items() {
	p.out.Show = Columns
	p.item()
	for p.accept(",") {
		p.item()
	}
}

func (p *parser) item() {
	name := p.name()
	p.out.Items = append(p.out.Items, name)
}

func (p *parser) term() Term {
	word := p.next()
	if word.Kind == words.Name {
		p.at++
		return Term{Column: word.Text}
	}
	value := p.literal()
	return Term{Literal: value}
}

func (p *parser) literal() data.Value {
	minus := p.accept("-")
	word := p.take()
	switch {
	case word.Kind == words.Number && minus:
		return data.OfNumber(-numberOf(word.Text))
	case word.Kind == words.Number:
		return data.OfNumber(numberOf(word.Text))
	case word.Kind == words.Text && !minus:
		return data.OfText(word.Text)
	}
	p.bad = true
	return data.Value{}
}

// numberOf cannot overflow: a number has nine digits at most.
func numberOf(digits string) int64 {
	number := int64(0)
	for i := 0; i < len(digits); i++ {
		number = number*10 + int64(digits[i]-'0')
	}
	return number
}
