// Package octet writes numbers as octets, the highest byte first, and reads them: see doc/01-octet.md.
package octet

const (
	maxSize = 8  // bytes of a uint64
	maxPad  = 64 // the greatest multiple that Pad goes to
)

// Put answers b and the lowest size bytes of n, the highest first; b alone, unless size is 1 to 8.
func Put(b []byte, n uint64, size int) []byte {
	if !sized(size) {
		return longer(b, 0)
	}
	l := longer(b, size)
	for i := len(l) - 1; i >= len(b); i-- {
		l[i] = byte(n)
		n >>= 8
	}
	return l
}

// Get answers the number of size bytes from at on; 0, false, unless size is 1 to 8 and all are there.
func Get(b []byte, at, size int) (uint64, bool) {
	if !sized(size) || !there(b, at, size) {
		return 0, false
	}
	var n uint64
	for _, c := range b[at : at+size] {
		n = n<<8 | uint64(c)
	}
	return n, true
}

// Pad answers b and noughts, until its length is a multiple of to; b alone, unless to is 1 to 64.
func Pad(b []byte, to int) []byte {
	if to < 1 || to > maxPad {
		return longer(b, 0)
	}
	over := len(b) % to
	if over == 0 {
		return longer(b, 0)
	}
	return longer(b, to-over)
}

// Cut answers n bytes from at on; none, false, unless all are there.
func Cut(b []byte, at, n int) ([]byte, bool) {
	if !there(b, at, n) {
		return nil, false
	}
	return longer(b[at:at+n], 0), true
}

// longer answers b and more noughts. It makes the list anew each time: append would write into b's spare room.
func longer(b []byte, more int) []byte {
	l := make([]byte, len(b)+more)
	copy(l, b)
	return l
}

func sized(size int) bool {
	return size >= 1 && size <= maxSize
}

// there takes n away from the length, as at+n may be above what an int holds.
func there(b []byte, at, n int) bool {
	return at >= 0 && n >= 0 && n <= len(b)-at
}
