package crc

// polynomial is the checksum's, its highest power left out, with the lowest power in the highest bit.
const polynomial uint32 = 0xEDB88320

// In a register the highest bit stands for the power 0 of x, the lowest for the power 31.
const (
	one    uint32 = 1 << 31
	byByte uint32 = one >> 8
)

// stepZero takes the register one step on with a bit 0; it multiplies the register by x.
func stepZero(register uint32) uint32 {
	if register&1 == 1 {
		return register>>1 ^ polynomial
	}
	return register >> 1
}

// process takes the register on by all bytes of b. It makes its table anew at each call, because nothing is to be kept between calls.
func process(register uint32, b []byte) uint32 {
	var table [256]uint32
	for i := range table {
		value := uint32(i)
		for range 8 {
			value = stepZero(value)
		}
		table[i] = value
	}
	for _, x := range b {
		register = register>>8 ^ table[byte(register)^x]
	}
	return register
}

// times multiplies two registers, as polynomials modulo the checksum's.
func times(a, b uint32) uint32 {
	product := uint32(0)
	for bit := one; bit != 0; bit >>= 1 {
		if a&bit != 0 {
			product ^= b
		}
		b = stepZero(b)
	}
	return product
}

// zeroBytes answers the factor that n bytes 0 are, by squaring: n may be too great to go through them one by one.
func zeroBytes(n int) uint32 {
	factor, square := one, byByte
	for ; n > 0; n >>= 1 {
		if n&1 == 1 {
			factor = times(factor, square)
		}
		square = times(square, square)
	}
	return factor
}
