// Package word is numbers as words: see chapter 1.
package word

const (
	wordBits = 16 // bits of a word
	mostJoin = 4  // words that a uint64 has room for
)

// Put: see promise 1.1.
func Put(b []byte, w uint16) []byte {
	// append could write into the spare capacity of b, which belongs to the caller.
	out := make([]byte, len(b)+2)
	copy(out, b)
	out[len(b)] = byte(w >> 8)
	out[len(b)+1] = byte(w)
	return out
}

// Get: see promise 1.1.
func Get(b []byte, at int) (uint16, bool) {
	// Held against len(b)-1 and not at+1 against len(b): at+1 could wrap round.
	if at < 0 || at >= len(b)-1 {
		return 0, false
	}
	return uint16(b[at])<<8 | uint16(b[at+1]), true
}

// Signed: see promise 1.2.
func Signed(w uint16) int {
	return int(int16(w))
}

// Of: see promise 1.2.
func Of(n int) (uint16, bool) {
	if n < -32768 || n > 65535 {
		return 0, false
	}
	return uint16(n), true
}

// Join: see promise 1.3.
func Join(ws []uint16, little bool) (uint64, bool) {
	if !joins(len(ws)) {
		return 0, false
	}
	var v uint64
	for i := range ws {
		v = v<<wordBits | uint64(ws[place(i, len(ws), little)])
	}
	return v, true
}

// Split: see promise 1.3.
func Split(v uint64, n int, little bool) ([]uint16, bool) {
	// A shift by all 64 bits leaves 0, so that every v fits into four words.
	if !joins(n) || v>>(wordBits*n) != 0 {
		return nil, false
	}
	ws := make([]uint16, n)
	for i := range n {
		ws[place(i, n, little)] = uint16(v >> (wordBits * (n - 1 - i)))
	}
	return ws, true
}

func joins(n int) bool {
	return 1 <= n && n <= mostJoin
}

// place is the index of the word at rank i, the most significant one being at rank 0. Join and Split
// both go by it, so that the one undoes the other in either order.
func place(i, n int, little bool) int {
	if little {
		return n - 1 - i
	}
	return i
}
