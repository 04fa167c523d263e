package carry

// numberSize is how many bytes a number is written as.
const numberSize = 8

// writeNumber is a number as bytes; one below 0 goes round at 2^64.
func writeNumber(n int) string {
	var b [numberSize]byte
	for i := range b {
		b[i] = byte(uint64(n) >> (8 * (numberSize - 1 - i)))
	}
	return string(b[:])
}

// readNumber is the number that bytes are; false, if they are not as many as a number has.
func readNumber(s string) (int, bool) {
	if len(s) != numberSize {
		return 0, false
	}
	var n uint64
	for i := range len(s) {
		n = n<<8 | uint64(s[i])
	}
	return int(n), true
}
