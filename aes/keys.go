package aes

// expanded is a key of a block's length and the keys of all rounds behind it.
func expanded(key string, swaps *table) [keysSize]byte {
	var keys [keysSize]byte
	copy(keys[:], key)
	r := byte(1)
	for i := blockSize; i < keysSize; i += wordSize {
		var last [wordSize]byte
		copy(last[:], keys[i-wordSize:i])
		if i%blockSize == 0 {
			last = [wordSize]byte{swaps[last[1]] ^ r, swaps[last[2]], swaps[last[3]], swaps[last[0]]}
			r = twice(r)
		}
		for j := range wordSize {
			keys[i+j] = keys[i-blockSize+j] ^ last[j]
		}
	}
	return keys
}
