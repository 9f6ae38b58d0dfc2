package digest

import (
	"crypto/sha256"
	"encoding/hex"
	"strings"
	"testing"
)

func TestExample(t *testing.T) {
	want := "ba7816bf8f01cfea414140de5dae2223b00361a396177a9cb410ff61f20015ad"
	if got := hex.EncodeToString([]byte(Of("abc", 32))); got != want {
		t.Errorf("%s, want %s", got, want)
	}
}

// Every length around the edges of blocks, and a long text.
func TestLengths(t *testing.T) {
	text := ""
	for i := 0; i < 400; i++ {
		if sum := sha256.Sum256([]byte(text)); Of(text, 32) != string(sum[:]) {
			t.Fatalf("of %d bytes: %x, want %x", len(text), Of(text, 32), sum)
		}
		text += string([]byte{byte(i*i*7 + i/3)})
	}
	text = strings.Repeat("0123456\xff", 100000)
	if sum := sha256.Sum256([]byte(text)); Of(text, 32) != string(sum[:]) {
		t.Errorf("of a long text: %x, want %x", Of(text, 32), sum)
	}
}

func TestWidths(t *testing.T) {
	whole := Of("x", 32)
	for wide := 0; wide <= 32; wide++ {
		if got := Of("x", wide); got != whole[:wide] {
			t.Errorf("%d bytes: %x, want %x", wide, got, whole[:wide])
		}
	}
	for _, wide := range []int{-1, 33, -1 << 63, 1<<63 - 1} {
		if got := Of("x", wide); got != "" {
			t.Errorf("P1: %d bytes: %x", wide, got)
		}
	}
}

func TestIsWidth(t *testing.T) {
	for wide, want := range map[int]bool{-1 << 63: false, -1: false, 0: false, 1: true, 2: true, 31: true, 32: true, 33: false, 1<<63 - 1: false} {
		if got := IsWidth(wide); got != want {
			t.Errorf("P3: IsWidth(%d) = %v", wide, got)
		}
	}
}
