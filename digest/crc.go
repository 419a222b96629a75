package digest

// sumTable is what the low half of a byte does to a register that is shifted by four bits.
var sumTable = [16]uint32{
	0x00000000, 0x105ec76f, 0x20bd8ede, 0x30e349b1, 0x417b1dbc, 0x5125dad3, 0x61c69362, 0x7198540d,
	0x82f63b78, 0x92a8fc17, 0xa24bb5a6, 0xb21572c9, 0xc38d26c4, 0xd3d3e1ab, 0xe330a81a, 0xf36e6f75,
}

// Crc is the CRC32C of bytes.
func Crc(b []byte) int {
	r := ^uint32(0)
	for _, c := range b {
		r ^= uint32(c)
		r = r>>4 ^ sumTable[r&15]
		r = r>>4 ^ sumTable[r&15]
	}
	return int(^r)
}
