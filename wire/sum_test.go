package wire_test

import (
	"hash/crc32"
	"math/rand/v2"
	"testing"

	"shuttlecock/wire"
)

// sumByWords is the sum, step by step as the document's words tell it.
func sumByWords(b []byte) uint32 {
	sum := uint32(0xffffffff)
	for _, c := range b {
		sum = sum&^0xff | (sum&0xff ^ uint32(c))
		for i := 0; i < 8; i++ {
			out := sum & 1
			sum >>= 1
			if out == 1 {
				sum ^= 0xedb88320
			}
		}
	}
	return ^sum
}

// noise are n bytes, always the same ones of a seed.
func noise(n int, seed uint64) []byte {
	r := rand.New(rand.NewPCG(seed, 1))
	b := make([]byte, n)
	for i := range b {
		b[i] = byte(r.Uint32())
	}
	return b
}

func TestSum(t *testing.T) {
	for s, want := range map[string]uint32{"": 0, "123456789": 0xcbf43926, "\x00": 0xd202ef8d, "a": 0xe8b7be43} {
		if got := wire.Sum([]byte(s)); got != want {
			t.Errorf("P1.1: Sum of %q: %x, not %x", s, got, want)
		}
	}
	for c := range 256 {
		b := []byte{byte(c)}
		if got := wire.Sum(b); got != sumByWords(b) {
			t.Errorf("P1.1: Sum of the byte %d: %x, not %x", c, got, sumByWords(b))
		}
	}
	for n := range 300 {
		b := noise(n, uint64(n))
		if got := wire.Sum(b); got != sumByWords(b) || got != crc32.ChecksumIEEE(b) {
			t.Errorf("P1.1: Sum of %x: %x, not %x", b, got, sumByWords(b))
		}
	}
}

// turn turns bits of b from a bit on, of a byte the lowest first; no bit of
// bits stands behind the end.
func turn(b []byte, from int, bits uint32) []byte {
	out := append([]byte(nil), b...)
	for i := range 32 {
		if bits>>i&1 == 1 {
			out[(from+i)/8] ^= 1 << ((from + i) % 8)
		}
	}
	return out
}

func TestSumOfTurnedBits(t *testing.T) {
	r := rand.New(rand.NewPCG(3, 4))
	for n := 1; n <= 40; n++ {
		b := noise(n, uint64(n))
		sum := wire.Sum(b)
		for from := range 8 * n {
			room := min(32, 8*n-from)
			for try := range 40 {
				bits := r.Uint32() | 1
				switch try {
				case 0:
					bits = 1
				case 1:
					bits = 0xffffffff
				case 2:
					bits = 0x80000001
				}
				bits &= uint32(1<<room - 1)
				if wire.Sum(turn(b, from, bits)) == sum {
					t.Fatalf("P1.4: %x with the bits %x turned from %d on has the same sum", b, bits, from)
				}
			}
		}
	}
}
