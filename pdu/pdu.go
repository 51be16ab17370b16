// Package pdu is what the bytes of requests and those of replies have in common, so that packages ask and
// tell write and read it alike. It is no layer of the document: what it does, chapters 5 and 6 say.
package pdu

import "busbar/word"

const (
	CoilOn    = 255 << 8 // the word that stands for Value 1 of a coil; 0 stands for 0
	Device    = 14       // the byte that follows function 43
	MostCode  = 4        // the greatest Code of 43
	FieldsAt  = 1        // the index of what follows the function
	WordShift = 1        // n words have n<<WordShift bytes
	WordSize  = 1 << WordShift
	PairSize  = 2 << WordShift // bytes of an address and the word behind it
)

// Put appends numbers that are known to be words.
func Put(b []byte, numbers ...int) []byte {
	for _, n := range numbers {
		b = word.Put(b, uint16(n))
	}
	return b
}

// PutList appends a list behind the byte that tells how long it is. It may write behind the end of b,
// which must be the caller's own.
func PutList(b, list []byte) []byte {
	b = append(b, byte(len(list)))
	return append(b, list...)
}

// Pack is the bytes of words.
func Pack(ws []uint16) []byte {
	var b []byte
	for _, w := range ws {
		b = word.Put(b, w)
	}
	return b
}

// Unpack is the n words whose bytes are b, or false if b has another number of bytes.
func Unpack(b []byte, n int) ([]uint16, bool) {
	if len(b)&(WordSize-1) != 0 || len(b)>>WordShift != n {
		return nil, false
	}
	ws := make([]uint16, n)
	for i := range n {
		ws[i] = uint16(Number(b, i<<WordShift))
	}
	return ws, true
}

// Number is the word at an index, and 0 behind the end: one who reads a pair may not know yet whether
// the function has one.
func Number(b []byte, at int) int {
	w, _ := word.Get(b, at)
	return int(w)
}

// Coil is the Value that a word of function 5 stands for, or false if it stands for none.
func Coil(w int) (uint16, bool) {
	switch w {
	case 0:
		return 0, true
	case CoilOn:
		return 1, true
	}
	return 0, false
}

// Within tells whether n is 1 to most.
func Within(n, most int) bool {
	return 1 <= n && n <= most
}

// IsWord tells whether a number comes through a conversion to a word as it was.
func IsWord(n int) bool {
	return n == int(uint16(n))
}

// IsByte tells whether a number comes through a conversion to a byte as it was.
func IsByte(n int) bool {
	return n == int(byte(n))
}
