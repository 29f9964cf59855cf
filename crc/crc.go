// Package crc is layer 1: see shared/doc/01-crc.md.
package crc

const (
	polynomial uint32 = 0xEDB88320
	basis      uint64 = 14695981039346656037
	prime      uint64 = 1099511628211
)

// Sum sums bytes.
func Sum(b []byte) uint32 { return More(0, b) }

// More sums more of them.
func More(sum uint32, b []byte) uint32 {
	// A sum was turned at its end: turned once more it goes on as if it had not ended. That of no bytes, 0, turns into all bits set, so it begins one, too.
	return ^fold(^sum, b, dividing(polynomial))
}

// Hash hashes bytes.
func Hash(b []byte) uint64 { return fold(basis, b, multiplying(prime)) }

// fold puts bytes, one by one, to what has come to be of those ahead.
func fold[T uint32 | uint64](start T, b []byte, step func(T, byte) T) T {
	for _, x := range b {
		start = step(start, x)
	}
	return start
}

// dividing is a sum's step, by a reflected polynomial.
func dividing(by uint32) func(uint32, byte) uint32 {
	return func(rest uint32, x byte) uint32 {
		rest ^= uint32(x)
		for range 8 {
			// The bit that falls out is as good as chance, so a branch on it would be guessed wrong half the time.
			rest = rest>>1 ^ (rest&1)*by
		}
		return rest
	}
}

// multiplying is a hash's step, by a prime.
func multiplying(by uint64) func(uint64, byte) uint64 {
	return func(hash uint64, x byte) uint64 { return (hash ^ uint64(x)) * by }
}
