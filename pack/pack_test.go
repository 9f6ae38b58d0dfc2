package pack

import "testing"

func TestNumber(t *testing.T) {
	for _, c := range []struct {
		n     int64
		bytes int
		want  string
	}{
		{0, 1, "\x00"}, {255, 1, "\xff"}, {256, 1, "\x00"}, {300, 1, "\x2c"}, {0, 0, ""}, {5, -3, ""},
		{1<<32 - 1, 4, "\xff\xff\xff\xff"}, {1 << 31, 4, "\x80\x00\x00\x00"}, {0x01020304, 4, "\x01\x02\x03\x04"},
		{0x0580000007, 5, "\x05\x80\x00\x00\x07"}, {-1, 2, "\xff\xff"},
	} {
		if got := Number(c.n, c.bytes); got != c.want {
			t.Errorf("Number(%d, %d) = %q, want %q", c.n, c.bytes, got, c.want)
		}
	}
}

func TestRead(t *testing.T) {
	r := Read(Number(0x0580000007, 5) + Text("abc") + Text("") + Number(200, 1) + "tail")
	if n := r.Number(5); n != 0x0580000007 {
		t.Errorf("Number(5) = %x", n)
	}
	if a, b := r.Text(), r.Text(); a != "abc" || b != "" {
		t.Errorf("texts %q, %q", a, b)
	}
	if n := r.Number(1); n != 200 || r.Done() {
		t.Errorf("Number(1) = %d, done %v", n, r.Done())
	}
	if got := r.Take(4); got != "tail" || !r.Done() {
		t.Errorf("Take(4) = %q, done %v", got, r.Done())
	}
}

// A reader that has run short gives nothing more, and is never done.
func TestShort(t *testing.T) {
	for _, text := range []string{"", "\x04abc", "\xff", "\x01"} {
		r := Read(text)
		if got := r.Text(); got != "" || r.Done() {
			t.Errorf("Text of %q = %q, done %v", text, got, r.Done())
		}
		if got := r.Take(0) + r.Take(1); got != "" || r.Done() {
			t.Errorf("behind the end of %q: %q, done %v", text, got, r.Done())
		}
	}
	for _, bytes := range []int{-1, 4, 1<<63 - 1, -1 << 63} {
		r := Read("abc")
		if got := r.Take(bytes); got != "" || r.Done() {
			t.Errorf("Take(%d) = %q, done %v", bytes, got, r.Done())
		}
	}
}

// A reader that was made to fail is as one that has run short.
func TestFail(t *testing.T) {
	for _, text := range []string{"", "abc"} {
		r := Read(text)
		r.Fail()
		if got := r.Take(len(text)); got != "" || r.Number(1) != 0 || r.Text() != "" || r.Done() {
			t.Errorf("behind a fail %q, done %v", got, r.Done())
		}
	}
}
