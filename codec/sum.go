package codec

const (
	polynomial = 0x82F63B78 // of CRC-32C, its lowest bit first
	maskDelta  = 0xA282EAD8
	maskTurn   = 15 // bits that a mask turns round by
)

// Crc is bytes' check sum.
func Crc(b []byte) uint32 {
	table := sumTable()
	sum := ^uint32(0)
	for _, c := range b {
		sum ^= uint32(c)
		sum = sum>>4 ^ table[sum&15]
		sum = sum>>4 ^ table[sum&15]
	}
	return ^sum
}

// Mask hides a check sum.
func Mask(n uint32) uint32 { return (n>>maskTurn | n<<(32-maskTurn)) + maskDelta }

// Unmask is a hidden check sum.
func Unmask(n uint32) uint32 {
	n -= maskDelta
	return n<<maskTurn | n>>(32-maskTurn)
}

// sumTable is what four bits make of a sum. It is made anew for each sum, and most sums are of few bytes: so it is a table of four bits, not of eight.
func sumTable() [16]uint32 {
	var table [16]uint32
	fill := func(four int) {
		sum := uint32(four)
		for range 4 {
			out := sum & 1
			sum >>= 1
			if out == 1 {
				sum ^= polynomial
			}
		}
		table[four] = sum
	}
	for four := range table {
		fill(four)
	}
	return table
}
