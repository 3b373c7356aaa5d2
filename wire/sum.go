package wire

// turned is what a sum is or'd exclusively with when a 1 falls out of it.
const turned uint32 = 0xedb88320

// Sum is the sum of bytes.
func Sum(b []byte) uint32 {
	of := byteSums()
	sum := ^uint32(0)
	for _, c := range b {
		sum = of[byte(sum)^c] ^ sum>>8
	}
	return ^sum
}

// byteSums are what single bytes come to when they have been moved out, bit
// by bit. A bit that is moved down changes nothing till it falls out, so the
// bytes of one bit follow from each other, the highest first; all others are
// those of their bits, or'd exclusively: that takes 255 steps for the 2048
// that each byte on its own would take, at each sum.
func byteSums() [256]uint32 {
	var of [256]uint32
	sum := uint32(1)
	for i := range 8 {
		sum = moved(sum)
		bit := 128 >> i
		for ahead := 0; ahead < len(of); ahead += 2 * bit {
			of[ahead+bit] = of[ahead] ^ sum
		}
	}
	return of
}

// moved is a sum that is moved by one bit.
func moved(sum uint32) uint32 {
	if sum&1 == 1 {
		return sum>>1 ^ turned
	}
	return sum >> 1
}
