package aes

import "math/bits"

// units is how many bytes have another one with which their product is 1: all but 0.
const units = 255

// twice is Times of a byte and 2: what goes beyond x^7 comes back as x^4 + x^3 + x + 1.
func twice(a byte) byte { return a<<1 ^ (a>>7)*0x1b }

// thrice is Times of a byte and 3.
func thrice(a byte) byte { return twice(a) ^ a }

// table has for each byte the one that it is swapped for.
type table [256]byte

// swappedBytes makes the table. Each call makes it anew, for a variable of the package may hold no more than what is written out.
func swappedBytes() table {
	powers := powersOfThree()
	var swaps table
	swaps[0] = spread(0)
	i := 0
again:
	// The powers i and 255 - i have the product 1, for the power 255 is 1 again.
	swaps[powers[i]] = spread(powers[(units-i)%units])
	i++
	if i < units {
		goto again
	}
	return swaps
}

// powersOfThree has each byte but 0 once: the powers of 3 come to all of them, as those of 2 do not.
func powersOfThree() [units]byte {
	var powers [units]byte
	power := byte(1)
	for i := range units {
		powers[i] = power
		power = thrice(power)
	}
	return powers
}

// spread makes, of the byte with which another one's product is 1, what that one is swapped for.
func spread(b byte) byte {
	sum := b ^ 0x63
	for i := 1; i <= 4; i++ {
		sum ^= bits.RotateLeft8(b, i)
	}
	return sum
}
