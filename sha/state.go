package sha

// state is the eight words of a state, a to h.
type state [8]uint32

// squareRoots are, of the first eight primes, the first 32 bits behind the point of their square roots.
var squareRoots = [8]uint32{
	0x6a09e667, 0xbb67ae85, 0x3c6ef372, 0xa54ff53a, 0x510e527f, 0x9b05688c, 0x1f83d9ab, 0x5be0cd19,
}

func start() state {
	var v state
	for i := range len(v) {
		v[i] = squareRoots[i]
	}
	return v
}

func readState(s string) state {
	var v state
	for i := range len(v) {
		v[i] = readWord(s[i*wordSize:])
	}
	return v
}

// readWord is the word that a text begins with.
func readWord(s string) uint32 {
	var w uint32
	for i := range wordSize {
		w = w<<8 | uint32(s[i])
	}
	return w
}

// text is the state as bytes.
func (v state) text() string {
	b := make([]byte, stateSize)
	for i := range len(b) {
		b[i] = byte(v[i/wordSize] >> (8 * (wordSize - 1 - i%wordSize)))
	}
	return string(b)
}

// through is the state behind all blocks that a text is made of.
func (v state) through(s string) state {
	for i := range len(s) / blockSize {
		v = v.behind(s[i*blockSize : (i+1)*blockSize])
	}
	return v
}
