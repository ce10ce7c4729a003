package bellman_test

import (
	"hash/crc32"
	"math/rand"
	"strings"
	"testing"

	"bellman/bellman"
)

// wantSum asks Go's own library: the document's check is the usual CRC-32.
func wantSum(t *testing.T, text string) {
	t.Helper()
	want := int(crc32.ChecksumIEEE([]byte(text)))
	if n := bellman.Sum(text); n != want {
		t.Errorf("P5: Sum(%.40q) of %d bytes = %d, want %d", text, len(text), n, want)
	}
}

func TestExample4(t *testing.T) {
	if n := bellman.Sum(""); n != 0 {
		t.Errorf("P5: Sum(\"\") = %d", n)
	}
	if n := bellman.Sum("123456789"); n != 3421780262 {
		t.Errorf("P5: Sum(\"123456789\") = %d", n)
	}
}

func TestSumOfEveryByte(t *testing.T) {
	for b := 0; b < 256; b++ {
		wantSum(t, string([]byte{byte(b)}))
		wantSum(t, string([]byte{byte(b), byte(255 - b)}))
	}
}

func TestSumOfLongTexts(t *testing.T) {
	for _, unit := range []string{"\x00", "\xff", "a", "\n", "T\x01"} {
		for _, count := range []int{2, 3, 4, 5, 255, 256, 257, 4000, 65536} {
			wantSum(t, strings.Repeat(unit, count))
		}
	}
	wantSum(t, strings.Repeat("0123456789", 300000))
}

func TestSumOfRandomTexts(t *testing.T) {
	random := rand.New(rand.NewSource(5))
	for round := 0; round < 2000; round++ {
		text := make([]byte, random.Intn(600))
		for i := range text {
			text[i] = byte(random.Intn(256))
		}
		wantSum(t, string(text))
	}
}
