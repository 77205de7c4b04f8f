package record

// halves tells, of each half of a byte, the rest that it leaves as it is divided out: sixteen words, where whole bytes would need 256.
var halves = [16]uint32{
	0x00000000, 0x1DB71064, 0x3B6E20C8, 0x26D930AC,
	0x76DC4190, 0x6B6B51F4, 0x4DB26158, 0x5005713C,
	0xEDB88320, 0xF00F9344, 0xD6D6A3E8, 0xCB61B38C,
	0x9B64C2B0, 0x86D3D2D4, 0xA00AE278, 0xBDBDF21C,
}

// Check tells the check of bytes.
func Check(b string) uint32 {
	rest := ^uint32(0)
	for i := range len(b) {
		// The lowest bit stands for the highest power, so the lower half comes first.
		rest ^= uint32(b[i])
		rest = rest>>4 ^ halves[rest&15]
		rest = rest>>4 ^ halves[rest&15]
	}
	return ^rest
}
