// Package words splits a text into the words of the language (P4).
package words

import "sqlproof/api"

// Kind says what a word is.
type Kind int

const (
	None   Kind = 0 // no word at all
	Mark   Kind = 1 // a keyword or a sign
	Name   Kind = 2
	Number Kind = 3
	Text   Kind = 4
)

// Word is one word; a text comes without its quotes.
type Word struct {
	Kind Kind
	Text string
}

// Split tells the words of a text, or false if something in it is no word.
func Split(sql string) ([]Word, bool) {
	var list []Word
	at := 0
	for at < len(sql) {
		if isGap(sql[at]) {
			at++
			continue
		}
		end := endOf(sql, at)
		if end <= at || end > len(sql) {
			return nil, false
		}
		word := wordOf(sql[at:end])
		if word.Kind == None {
			return nil, false
		}
		list = append(list, word)
		at = end
	}
	return list, true
}

// endOf tells where the longest word that begins at a place ends; that place
// itself, if none begins there.
func endOf(sql string, at int) int {
	first := byteAt(sql, at)
	switch {
	case isLetter(first):
		return endOfLetters(sql, at)
	case isDigit(first):
		return endOfDigits(sql, at)
	case first == '\'':
		return endOfText(sql, at)
	case isPair(first, byteAt(sql, at+1)):
		return at + 2
	case isSign(first):
		return at + 1
	}
	return at
}

func endOfLetters(sql string, at int) int {
	end := at
	for isLetter(byteAt(sql, end)) || isDigit(byteAt(sql, end)) {
		end++
	}
	return end
}

func endOfDigits(sql string, at int) int {
	end := at
	for isDigit(byteAt(sql, end)) {
		end++
	}
	return end
}

func endOfText(sql string, at int) int {
	end := at + 1
	for isInText(byteAt(sql, end)) {
		end++
	}
	if byteAt(sql, end) != '\'' {
		return at
	}
	return end + 1
}

// wordOf makes a word of a piece that endOf has measured; None, if the piece
// is too long. Its text is a copy, for a word may be kept for longer than the
// statement that it stood in.
func wordOf(piece string) Word {
	first := byteAt(piece, 0)
	own := string([]byte(piece))
	switch {
	case isKeyword(piece):
		return Word{Kind: Mark, Text: own}
	case isLetter(first):
		return bounded(Name, own, api.MaxName)
	case isDigit(first):
		return bounded(Number, own, api.MaxDigits)
	case first == '\'' && len(own) >= 2:
		return bounded(Text, own[1:len(own)-1], api.MaxText)
	}
	return Word{Kind: Mark, Text: own}
}

func bounded(kind Kind, text string, most int) Word {
	if len(text) > most {
		return Word{}
	}
	return Word{Kind: kind, Text: text}
}

// byteAt answers 0 outside the text: no word has such a byte.
func byteAt(s string, at int) byte {
	if at < 0 || at >= len(s) {
		return 0
	}
	return s[at]
}

func isGap(c byte) bool    { return c == ' ' || c == '\n' }
func isLetter(c byte) bool { return c >= 'a' && c <= 'z' }
func isDigit(c byte) bool  { return c >= '0' && c <= '9' }
func isInText(c byte) bool { return c >= ' ' && c <= '~' && c != '\'' }

func isSign(c byte) bool {
	switch c {
	case '(', ')', ',', '*', '=', '+', '-', '<', '>':
		return true
	}
	return false
}

func isPair(c byte, d byte) bool {
	return c == '<' && d == '>' || c == '<' && d == '=' || c == '>' && d == '='
}

func isKeyword(s string) bool {
	switch s {
	case "create", "table", "insert", "into", "values", "update", "set", "where", "delete",
		"from", "select", "and", "or", "not", "int", "text", "count", "sum":
		return true
	}
	return false
}
