// Package pack writes numbers and texts as bytes, and reads them.
package pack

// Number is a number in so many bytes, the highest first; what does not fit into
// them is left out.
func Number(n int64, bytes int) string {
	var low []byte
	for i := 0; i < bytes; i++ {
		low = append(low, byte(n))
		n >>= 8
	}
	var out []byte
	for i := len(low) - 1; i >= 0; i-- {
		out = append(out, low[i])
	}
	return string(out)
}

// Text is a text with its length, a single byte, ahead of it.
func Text(text string) string {
	return Number(int64(len(text)), 1) + text
}

// Reader takes a text from its front. If it is asked for more than is there, it
// gives nothing and stays short, so that a whole row is read before one test.
type Reader struct {
	rest  string
	short bool
}

// Read begins at the front of a text.
func Read(text string) Reader {
	return Reader{rest: text}
}

// Take is the next so many bytes.
func (r *Reader) Take(bytes int) string {
	if bytes < 0 || bytes > len(r.rest) || r.short {
		r.short = true
		return ""
	}
	taken := r.rest[:bytes]
	r.rest = r.rest[bytes:]
	return taken
}

// Number is the next so many bytes as a number, the highest first.
func (r *Reader) Number(bytes int) int64 {
	taken := r.Take(bytes)
	n := int64(0)
	for i := 0; i < len(taken); i++ {
		n = n<<8 | int64(taken[i])
	}
	return n
}

// Text is a text whose length, a single byte, stands ahead of it.
func (r *Reader) Text() string {
	bytes := r.Number(1)
	return r.Take(int(bytes))
}

// Fail is for whoever finds that what was read cannot be: the reader is from then
// on as if it were short.
func (r *Reader) Fail() {
	r.short = true
}

// Done tells whether the text was read to its end, and no further.
func (r *Reader) Done() bool {
	return r.rest == "" && !r.short
}
