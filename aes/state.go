package aes

// state is a block that is being encrypted: four columns, one behind the other, of four rows.
type state [blockSize]byte

// plus is the state exclusive or a key of a round.
func (s state) plus(key []byte) state {
	for i := range blockSize {
		s[i] ^= key[i]
	}
	return s
}

// swapped is the state with each byte swapped.
func (s state) swapped(swaps *table) state {
	for i := range blockSize {
		s[i] = swaps[s[i]]
	}
	return s
}

// turned is the state with each row turned left, by as many columns as there are rows above it.
func (s state) turned() state {
	var t state
	for i := range blockSize {
		column, row := i/wordSize, i%wordSize
		t[i] = s[(column+row)%wordSize*wordSize+row]
	}
	return t
}

// mixed is the state with each column mixed.
func (s state) mixed() state {
	for i := 0; i < blockSize; i += wordSize {
		a, b, c, d := s[i], s[i+1], s[i+2], s[i+3]
		s[i] = twice(a) ^ thrice(b) ^ c ^ d
		s[i+1] = a ^ twice(b) ^ thrice(c) ^ d
		s[i+2] = a ^ b ^ twice(c) ^ thrice(d)
		s[i+3] = thrice(a) ^ b ^ c ^ twice(d)
	}
	return s
}
