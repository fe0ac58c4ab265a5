// Package bits is layer 1: see shared/doc/01-bits.md.
package bits

// widest is how many bits the numbers of one call have together at most.
const widest = 32

// together is how many bytes numbers of these widths fill; false: such widths may not be.
func together(wide []int) (int, bool) {
	sum := 0
	for _, w := range wide {
		// Held against what is left, not added first: no sum can run over.
		if w < 1 || w > widest-sum {
			return 0, false
		}
		sum += w
	}
	return sum / 8, sum == 8 || sum == 16 || sum == 32
}

// has tells whether a number has so few bits.
func has(n, wide int) bool { return n >= 0 && n>>wide == 0 }

// Ones is the sum of 16 bits with what runs over taken in again, turned about.
func Ones(s string) int {
	var sum uint64
	for i := 0; i < len(s); i++ {
		if i%2 == 0 {
			sum += uint64(s[i]) << 8
		} else {
			sum += uint64(s[i])
		}
	}
	for sum>>16 != 0 {
		sum = sum>>16 + sum&0xffff
	}
	return int(^uint16(sum))
}
