// Package num is layer 1, numbers and texts as bytes: see shared/doc/01-num.md.
package num

import "syndic/api"

// tooMany is how many bytes no number has: where so many go on, none ends.
const tooMany = 8

// Writer writes numbers and texts, one behind another.
type Writer struct {
	bytes   []byte
	spoiled bool
}

// New is a writer without bytes.
func New() *Writer { return &Writer{} }

// Num writes a number.
func (w *Writer) Num(n int) *Writer {
	if Size(n) == 0 {
		w.spoiled, w.bytes = true, nil
	}
	if w.spoiled {
		return w
	}
	for ; n >= 128; n >>= 7 {
		w.bytes = append(w.bytes, byte(n)|128)
	}
	w.bytes = append(w.bytes, byte(n))
	return w
}

// Text writes a text: its number of bytes, and these.
func (w *Writer) Text(s string) *Writer {
	w.Num(len(s))
	if !w.spoiled {
		w.bytes = append(w.bytes, s...)
	}
	return w
}

// Bytes is what was written; ErrArg of a writer that is spoilt.
func (w *Writer) Bytes() ([]byte, api.Errno) {
	if w.spoiled {
		return nil, api.ErrArg
	}
	return append([]byte(nil), w.bytes...), api.OK
}

// Reader reads what a writer wrote.
type Reader struct {
	left  []byte
	wrong api.Errno
}

// Of is a reader of bytes: of its own, so that nobody changes them under it.
func Of(b []byte) *Reader { return &Reader{left: append([]byte(nil), b...)} }

// Num reads a number.
func (r *Reader) Num() int {
	if r.wrong != api.OK {
		return 0
	}
	n, size, err := number(r.left)
	r.wrong, r.left = err, r.left[size:]
	return n
}

// Text reads a text of at most so many bytes.
func (r *Reader) Text(most int) string {
	if r.wrong != api.OK {
		return ""
	}
	n, size, err := number(r.left)
	switch rest := len(r.left) - size; {
	case err != api.OK:
		r.wrong = err
	case n > most:
		r.wrong = api.ErrLong
	case n > rest:
		r.wrong = api.ErrShort
	}
	if r.wrong != api.OK {
		return ""
	}
	s := string(r.left[size : size+n])
	r.left = r.left[size+n:]
	return s
}

// End tells whether all was right, and nothing is left.
func (r *Reader) End() api.Errno {
	if r.wrong == api.OK && len(r.left) > 0 {
		return api.ErrForm
	}
	return r.wrong
}

// Left is how many bytes are left.
func (r *Reader) Left() int { return len(r.left) }

// Size is how many bytes a number is; 0 of one that can't be written.
func Size(n int) int {
	if n < 0 || n > api.MaxNumber {
		return 0
	}
	size := 1
	for n >>= 7; n > 0; n >>= 7 {
		size++
	}
	return size
}

// number is the number that b begins with, and how many bytes it has.
func number(b []byte) (int, int, api.Errno) {
	n, i := 0, 0
digit:
	if i == tooMany {
		return 0, 0, api.ErrForm
	}
	if i == len(b) {
		return 0, 0, api.ErrShort
	}
	n |= int(b[i]&127) << (7 * i)
	i++
	if b[i-1] >= 128 {
		goto digit
	}
	if i != Size(n) { // it has noughts ahead, or is above the greatest
		return 0, 0, api.ErrForm
	}
	return n, i, api.OK
}
