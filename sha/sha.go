// Package sha is layer 1: SHA-256: see shared/doc/01-sha.md.
package sha

import (
	"sigil/api"
)

// blockSize is how many bytes a block has.
const blockSize = 64

// countSize is how many bytes at the end tell how long the message is.
const countSize = 8

// Pad are bytes, filled up to whole blocks.
func Pad(b []byte) []byte {
	// Made of its full length at once: appending to b could write into b's spare room.
	padded := make([]byte, paddedLen(len(b)))
	copy(padded, b)
	padded[len(b)] = 128
	bitCount := 8 * uint64(len(b))
	for i := range countSize {
		padded[len(padded)-1-i] = byte(bitCount >> (8 * i))
	}
	return padded
}

// paddedLen is the least number of bytes in whole blocks that holds n bytes, the byte 128 and the count.
func paddedLen(n int) int {
	return (n + 1 + countSize + blockSize - 1) / blockSize * blockSize
}

// Begin is the state ahead of all blocks.
func Begin() [8]uint32 {
	return [8]uint32{
		0x6A09E667, 0xBB67AE85, 0x3C6EF372, 0xA54FF53A, 0x510E527F, 0x9B05688C, 0x1F83D9AB, 0x5BE0CD19,
	}
}

// Step is the state behind one block more.
func Step(h [8]uint32, block [64]byte) [8]uint32 {
	k := [64]uint32{
		0x428A2F98, 0x71374491, 0xB5C0FBCF, 0xE9B5DBA5, 0x3956C25B, 0x59F111F1, 0x923F82A4, 0xAB1C5ED5,
		0xD807AA98, 0x12835B01, 0x243185BE, 0x550C7DC3, 0x72BE5D74, 0x80DEB1FE, 0x9BDC06A7, 0xC19BF174,
		0xE49B69C1, 0xEFBE4786, 0x0FC19DC6, 0x240CA1CC, 0x2DE92C6F, 0x4A7484AA, 0x5CB0A9DC, 0x76F988DA,
		0x983E5152, 0xA831C66D, 0xB00327C8, 0xBF597FC7, 0xC6E00BF3, 0xD5A79147, 0x06CA6351, 0x14292967,
		0x27B70A85, 0x2E1B2138, 0x4D2C6DFC, 0x53380D13, 0x650A7354, 0x766A0ABB, 0x81C2C92E, 0x92722C85,
		0xA2BFE8A1, 0xA81A664B, 0xC24B8B70, 0xC76C51A3, 0xD192E819, 0xD6990624, 0xF40E3585, 0x106AA070,
		0x19A4C116, 0x1E376C08, 0x2748774C, 0x34B0BCB5, 0x391C0CB3, 0x4ED8AA4A, 0x5B9CCA4F, 0x682E6FF3,
		0x748F82EE, 0x78A5636F, 0x84C87814, 0x8CC70208, 0x90BEFFFA, 0xA4506CEB, 0xBEF9A3F7, 0xC67178F2,
	}
	w := schedule(block)
	v := h // the words a to h of the document, in this order
	for t := range k {
		t1 := v[7] + stateSigma1(v[4]) + choose(v[4], v[5], v[6]) + k[t] + w[t]
		t2 := stateSigma0(v[0]) + majority(v[0], v[1], v[2])
		copy(v[1:], v[:7])
		v[4] += t1 // the d of before, which has just moved on to e's place
		v[0] = t1 + t2
	}
	for i := range v {
		v[i] += h[i]
	}
	return v
}

// schedule are the 64 words that a block's sixteen are drawn out to.
func schedule(block [64]byte) [64]uint32 {
	var w [64]uint32
	for t := range 16 {
		w[t] = uint32(block[4*t])<<24 | uint32(block[4*t+1])<<16 | uint32(block[4*t+2])<<8 | uint32(block[4*t+3])
	}
	for t := 16; t < len(w); t++ {
		w[t] = scheduleSigma1(w[t-2]) + w[t-7] + scheduleSigma0(w[t-15]) + w[t-16]
	}
	return w
}

// turner is the closure that turns x to the right, by 1 to 31 bits.
func turner(x uint32) func(n int) uint32 {
	return func(n int) uint32 { return (x >> n) | (x << (32 - n)) }
}

// scheduleSigma0 is the document's s0.
func scheduleSigma0(x uint32) uint32 {
	turned := turner(x)
	return turned(7) ^ turned(18) ^ (x >> 3)
}

// scheduleSigma1 is the document's s1.
func scheduleSigma1(x uint32) uint32 {
	turned := turner(x)
	return turned(17) ^ turned(19) ^ (x >> 10)
}

// stateSigma0 is the document's S0.
func stateSigma0(x uint32) uint32 {
	turned := turner(x)
	return turned(2) ^ turned(13) ^ turned(22)
}

// stateSigma1 is the document's S1.
func stateSigma1(x uint32) uint32 {
	turned := turner(x)
	return turned(6) ^ turned(11) ^ turned(25)
}

// choose are the bits of f where e has a bit, and those of g elsewhere.
func choose(e, f, g uint32) uint32 { return (e & f) ^ (^e & g) }

// majority are the bits that two or three of the words have.
func majority(a, b, c uint32) uint32 { return (a & b) ^ (a & c) ^ (b & c) }

// Sum is bytes' sum.
func Sum(b []byte) api.Digest {
	h := Begin()
	padded := Pad(b)
	for at := 0; at < len(padded); at += blockSize {
		h = Step(h, [blockSize]byte(padded[at:at+blockSize]))
	}
	return digest(h)
}

// digest are a state's words as bytes, the highest of each first.
func digest(h [8]uint32) api.Digest {
	var d api.Digest
	for i, word := range h {
		d[4*i] = byte(word >> 24)
		d[4*i+1] = byte(word >> 16)
		d[4*i+2] = byte(word >> 8)
		d[4*i+3] = byte(word)
	}
	return d
}
