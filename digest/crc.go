package digest

const crcBits = 0xedb88320

// Crc is the CRC-32 of bytes.
func Crc(b []byte) uint32 {
	return CrcMore(0, b)
}

// CrcMore is the CRC-32 of something and more.
func CrcMore(sum uint32, more []byte) uint32 {
	// Turning all bits again undoes the end of the sum so far.
	c := ^sum
	for _, b := range more {
		c ^= uint32(b)
		for range 8 {
			lowest := c & 1
			c >>= 1
			if lowest != 0 {
				c ^= crcBits
			}
		}
	}
	return ^c
}
