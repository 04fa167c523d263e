package sha

import "math/bits"

// rounds is how many words a block becomes.
const rounds = 64

// cubeRoots are, of the first 64 primes, the first 32 bits behind the point of their cube roots.
var cubeRoots = [rounds]uint32{
	0x428a2f98, 0x71374491, 0xb5c0fbcf, 0xe9b5dba5, 0x3956c25b, 0x59f111f1, 0x923f82a4, 0xab1c5ed5,
	0xd807aa98, 0x12835b01, 0x243185be, 0x550c7dc3, 0x72be5d74, 0x80deb1fe, 0x9bdc06a7, 0xc19bf174,
	0xe49b69c1, 0xefbe4786, 0x0fc19dc6, 0x240ca1cc, 0x2de92c6f, 0x4a7484aa, 0x5cb0a9dc, 0x76f988da,
	0x983e5152, 0xa831c66d, 0xb00327c8, 0xbf597fc7, 0xc6e00bf3, 0xd5a79147, 0x06ca6351, 0x14292967,
	0x27b70a85, 0x2e1b2138, 0x4d2c6dfc, 0x53380d13, 0x650a7354, 0x766a0abb, 0x81c2c92e, 0x92722c85,
	0xa2bfe8a1, 0xa81a664b, 0xc24b8b70, 0xc76c51a3, 0xd192e819, 0xd6990624, 0xf40e3585, 0x106aa070,
	0x19a4c116, 0x1e376c08, 0x2748774c, 0x34b0bcb5, 0x391c0cb3, 0x4ed8aa4a, 0x5b9cca4f, 0x682e6ff3,
	0x748f82ee, 0x78a5636f, 0x84c87814, 0x8cc70208, 0x90befffa, 0xa4506ceb, 0xbef9a3f7, 0xc67178f2,
}

// behind is the state behind one block.
func (v state) behind(block string) state {
	w := spread(block)
	a, b, c, d, e, f, g, h := v[0], v[1], v[2], v[3], v[4], v[5], v[6], v[7]
	for t := range rounds {
		first := h + big1(e) + choice(e, f, g) + cubeRoots[t] + w[t]
		second := big0(a) + majority(a, b, c)
		h, g, f, e, d, c, b, a = g, f, e, d+first, c, b, a, first+second
	}
	return state{v[0] + a, v[1] + b, v[2] + c, v[3] + d, v[4] + e, v[5] + f, v[6] + g, v[7] + h}
}

// spread is a block as words, and the words that follow from these.
func spread(block string) [rounds]uint32 {
	var w [rounds]uint32
	for t := range rounds {
		if t < blockSize/wordSize {
			w[t] = readWord(block[t*wordSize:])
		} else {
			w[t] = small1(w[t-2]) + w[t-7] + small0(w[t-15]) + w[t-16]
		}
	}
	return w
}

// turner answers a word turned right by as many bits as it is asked for.
func turner(x uint32) func(n int) uint32 {
	return func(n int) uint32 { return bits.RotateLeft32(x, -n) }
}

func small0(x uint32) uint32 {
	turned := turner(x)
	return turned(7) ^ turned(18) ^ x>>3
}

func small1(x uint32) uint32 {
	turned := turner(x)
	return turned(17) ^ turned(19) ^ x>>10
}

func big0(x uint32) uint32 {
	turned := turner(x)
	return turned(2) ^ turned(13) ^ turned(22)
}

func big1(x uint32) uint32 {
	turned := turner(x)
	return turned(6) ^ turned(11) ^ turned(25)
}

// choice takes each bit of f where e has one, and of g where it has none.
func choice(e, f, g uint32) uint32 { return (e & f) ^ (^e & g) }

// majority takes each bit that at least two of the three have.
func majority(a, b, c uint32) uint32 { return (a & b) ^ (a & c) ^ (b & c) }
