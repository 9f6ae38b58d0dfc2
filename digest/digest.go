// Package digest has SHA-256 (FIPS 180-4), cut to a width.
package digest

import "sqlproof/api"

// rounds are the first 32 bits behind the point of the cube roots of the first 64 primes.
var rounds = [64]uint32{
	0x428a2f98, 0x71374491, 0xb5c0fbcf, 0xe9b5dba5, 0x3956c25b, 0x59f111f1, 0x923f82a4, 0xab1c5ed5,
	0xd807aa98, 0x12835b01, 0x243185be, 0x550c7dc3, 0x72be5d74, 0x80deb1fe, 0x9bdc06a7, 0xc19bf174,
	0xe49b69c1, 0xefbe4786, 0x0fc19dc6, 0x240ca1cc, 0x2de92c6f, 0x4a7484aa, 0x5cb0a9dc, 0x76f988da,
	0x983e5152, 0xa831c66d, 0xb00327c8, 0xbf597fc7, 0xc6e00bf3, 0xd5a79147, 0x06ca6351, 0x14292967,
	0x27b70a85, 0x2e1b2138, 0x4d2c6dfc, 0x53380d13, 0x650a7354, 0x766a0abb, 0x81c2c92e, 0x92722c85,
	0xa2bfe8a1, 0xa81a664b, 0xc24b8b70, 0xc76c51a3, 0xd192e819, 0xd6990624, 0xf40e3585, 0x106aa070,
	0x19a4c116, 0x1e376c08, 0x2748774c, 0x34b0bcb5, 0x391c0cb3, 0x4ed8aa4a, 0x5b9cca4f, 0x682e6ff3,
	0x748f82ee, 0x78a5636f, 0x84c87814, 0x8cc70208, 0x90befffa, 0xa4506ceb, 0xbef9a3f7, 0xc67178f2,
}

const block = 64 // bytes that are mixed in at once

// IsWidth tells whether a digest may have so many bytes.
func IsWidth(wide int) bool {
	return wide >= 1 && wide <= api.MaxWide
}

// Of is the first so many bytes of a text's SHA-256.
func Of(text string, wide int) string {
	sum := whole(text)
	if wide < 0 || wide > len(sum) {
		return ""
	}
	return sum[:wide]
}

func whole(text string) string {
	bytes := padded(text)
	state := [8]uint32{0x6a09e667, 0xbb67ae85, 0x3c6ef372, 0xa54ff53a, 0x510e527f, 0x9b05688c, 0x1f83d9ab, 0x5be0cd19}
	for at := 0; at < len(bytes); at += block {
		state = mixed(state, schedule(bytes, at))
	}
	var sum []byte
	for i := 0; i < len(state); i++ {
		sum = append(sum, byte(state[i]>>24), byte(state[i]>>16), byte(state[i]>>8), byte(state[i]))
	}
	return string(sum)
}

// padded is the text, a single bit, and its length in bits, in whole blocks.
func padded(text string) []byte {
	bytes := append([]byte(text), 0x80)
	for len(bytes)%block != block-8 {
		bytes = append(bytes, 0)
	}
	bits := uint64(len(text)) * 8
	for i := 0; i < 8; i++ {
		bytes = append(bytes, byte(bits>>56))
		bits <<= 8
	}
	return bytes
}

// schedule is the words that the block at a place gives to the rounds.
func schedule(bytes []byte, at int) [64]uint32 {
	var words [64]uint32
	for i := 0; i < 16; i++ {
		words[i] = wordAt(bytes, at+4*i)
	}
	for i := 16; i < len(words); i++ {
		x := words[i-15]
		y := words[i-2]
		low := turned(x, 7) ^ turned(x, 18) ^ x>>3
		high := turned(y, 17) ^ turned(y, 19) ^ y>>10
		words[i] = words[i-16] + low + words[i-7] + high
	}
	return words
}

func wordAt(bytes []byte, at int) uint32 {
	if at < 0 || at > len(bytes)-4 {
		return 0
	}
	return uint32(bytes[at])<<24 | uint32(bytes[at+1])<<16 | uint32(bytes[at+2])<<8 | uint32(bytes[at+3])
}

func turned(x uint32, bits uint) uint32 {
	return x>>bits | x<<(32-bits)
}

// mixed is the state behind the 64 rounds of a block; a to h are the standard's names.
func mixed(state [8]uint32, words [64]uint32) [8]uint32 {
	a, b, c, d := state[0], state[1], state[2], state[3]
	e, f, g, h := state[4], state[5], state[6], state[7]
	for i := 0; i < len(words); i++ {
		choice := e&f ^ ^e&g
		most := a&b ^ a&c ^ b&c
		first := h + (turned(e, 6) ^ turned(e, 11) ^ turned(e, 25)) + choice + rounds[i] + words[i]
		second := (turned(a, 2) ^ turned(a, 13) ^ turned(a, 22)) + most
		h = g
		g = f
		f = e
		e = d + first
		d = c
		c = b
		b = a
		a = first + second
	}
	return [8]uint32{state[0] + a, state[1] + b, state[2] + c, state[3] + d, state[4] + e, state[5] + f, state[6] + g, state[7] + h}
}
