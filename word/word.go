// Package word is layer 1: words of a heap, and objects' heads.
package word

import "bushel/api"

// kinds is how many kinds of objects there are: a head is its size times this, and its kind.
const kinds = 16

// bytesPerWord is how many bytes of a text one word holds.
const bytesPerWord = 8

// Word is a number, or points.
type Word struct {
	Ptr bool
	V   int64
}

// Int is a number: P1.1.
func Int(n int64) Word { return Word{V: n} }

// At is a pointer: P1.1.
func At(place int) Word { return Word{Ptr: true, V: int64(place)} }

// Head is an object's head: P1.1.
func Head(kind, size int) (Word, error) {
	if kind < 0 || kind >= kinds || size < 0 || size > api.MaxObject {
		return Word{}, api.ErrArg
	}
	return Int(int64(size*kinds + kind)), nil
}

// Parts are a head's: P1.1.
func Parts(w Word) (int, int, bool) {
	if w.Ptr || w.V < 0 || w.V >= (api.MaxObject+1)*kinds {
		return 0, 0, false
	}
	return int(w.V % kinds), int(w.V / kinds), true
}

// Moved is where a head moved: P1.1.
func Moved(w Word) (int, bool) {
	if !w.Ptr {
		return 0, false
	}
	return int(w.V), true
}

// Pack packs bytes: P1.2.
func Pack(b []byte) []Word {
	l := make([]Word, 1, wordsOf(len(b)))
	l[0] = Int(int64(len(b)))
	for at := 0; at < len(b); at += bytesPerWord {
		l = append(l, packed(b[at:min(at+bytesPerWord, len(b))]))
	}
	return l
}

// wordsOf is how many words so many bytes are packed into.
func wordsOf(bytes int) int { return 1 + (bytes+bytesPerWord-1)/bytesPerWord }

// packed is the word of at most eight bytes.
func packed(b []byte) Word {
	var n uint64
	for i, c := range b {
		n |= uint64(c) << (8 * i)
	}
	return Int(int64(n))
}

// Unpack unpacks them: P1.2.
func Unpack(l []Word) ([]byte, error) {
	if !arePacked(l) {
		return nil, api.ErrArg
	}
	b := make([]byte, 0, l[0].V)
	for i := range int(l[0].V) {
		b = append(b, byteOf(l[1+i/bytesPerWord], i%bytesPerWord))
	}
	return b, nil
}

// byteOf is a word's byte number i, the lowest being number 0.
func byteOf(w Word, i int) byte { return byte(uint64(w.V) >> (8 * i)) }

// arePacked tells whether words are what Pack tells of some bytes.
func arePacked(l []Word) bool {
	for _, w := range l {
		if w.Ptr {
			return false
		}
	}
	// The number is held against the room first: a great one must not overflow.
	if len(l) == 0 || l[0].V < 0 || l[0].V > int64(len(l)-1)*bytesPerWord {
		return false
	}
	n := int(l[0].V)
	return wordsOf(n) == len(l) && restIsZero(l[len(l)-1], n)
}

// restIsZero tells whether the last word has nothing behind the last of n bytes.
func restIsZero(last Word, n int) bool {
	used := n % bytesPerWord
	return used == 0 || uint64(last.V)>>(8*used) == 0
}
