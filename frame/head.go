package frame

import "lamella/api"

// stored is added to the number of a payload that is not packed; the sizes are of how many bytes a head and a sum are.
const (
	stored   = 32768
	headSize = 3
	sumSize  = 4
)

// head is what a frame begins with: its number, and a byte that checks the number.
type head [headSize]byte

// headOf is the only head of a number: one that was read is right if it is the head of its own number.
func headOf(number int) head {
	low, high := byte(number), byte(number>>8)
	return head{low, high, 255 - (low ^ high)}
}

func (h head) number() int { return int(h[0]) + int(h[1])<<8 }

// bodySize is how many bytes stand behind the head with that number, the sum and the payload; false, if no frame has it.
func bodySize(number int) (int, bool) {
	if number == 0 {
		return 0, true
	}
	size := number % stored
	if size < 1 || size > api.Block {
		return 0, false
	}
	return sumSize + size, true
}
