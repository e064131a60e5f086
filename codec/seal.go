package codec

import (
	"bytes"

	"leat/api"
)

const (
	// sealHead is how many bytes a seal has ahead of what is within.
	sealHead = 8
	// maxSealed is how many bytes may be within a seal that is opened.
	maxSealed = 1 << 20
)

// nibbles has what each four bits leave by the turned polynomial EDB88320: a byte takes two steps, not eight.
var nibbles = [16]uint32{
	0x00000000, 0x1db71064, 0x3b6e20c8, 0x26d930ac,
	0x76dc4190, 0x6b6b51f4, 0x4db26158, 0x5005713c,
	0xedb88320, 0xf00f9344, 0xd6d6a3e8, 0xcb61b38c,
	0x9b64c2b0, 0x86d3d2d4, 0xa00ae278, 0xbdbdf21c,
}

// Sum is the CRC-32 (IEEE) of b.
func Sum(b []byte) uint32 {
	sum := ^uint32(0)
	for _, c := range b {
		sum ^= uint32(c)
		sum = sum>>4 ^ nibbles[sum&15]
		sum = sum>>4 ^ nibbles[sum&15]
	}
	return ^sum
}

// Seal lays b's length and Sum ahead of b.
func Seal(b []byte) []byte {
	sealed := make([]byte, 0, sealHead+len(b))
	sealed = writeNumber(sealed, 4, uint64(len(b)))
	sealed = writeNumber(sealed, 4, uint64(Sum(b)))
	return append(sealed, b...)
}

// Open tells what is within the seal that b begins with, and how many bytes the seal has.
func Open(b []byte) ([]byte, int, api.Errno) {
	r := reader{rest: b}
	size, sum := r.number(4), r.number(4)
	if size > maxSealed {
		return nil, 0, api.ErrCodecTorn
	}
	within := r.take(int(size))
	if r.bad || Sum(within) != uint32(sum) {
		return nil, 0, api.ErrCodecTorn
	}
	return bytes.Clone(within), sealHead + len(within), api.OK
}
