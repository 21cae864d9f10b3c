package wire

import (
	"carpetbag/api"
)

// Reader reads numbers, strings and rows one behind the other, up to the first error.
type Reader struct {
	data  []byte
	place int
	err   api.Errno
}

// Read is a reader at the beginning of b. It has a copy, since b may be changed while it reads.
func Read(b []byte) *Reader {
	return &Reader{data: copied(b, 0)}
}

// Number reads a number that is most at most.
func (r *Reader) Number(most int) int {
	if r.err != api.OK {
		return 0
	}
	if r.left() < numberSize {
		r.err = api.ErrForm
		return 0
	}
	n := 0
	for _, c := range r.data[r.place : r.place+numberSize] {
		n = n<<8 | int(c)
	}
	if n > most {
		r.err = api.ErrRange
		return 0
	}
	r.place += numberSize
	return n
}

// String reads a string of most bytes at most.
func (r *Reader) String(most int) string {
	start := r.place
	size := r.Number(min(most, api.MaxBytes))
	if r.err != api.OK {
		return ""
	}
	if r.left() < size {
		r.place = start
		r.err = api.ErrForm
		return ""
	}
	s := string(r.data[r.place : r.place+size])
	r.place += size
	return s
}

// Row reads a row of most strings at most, each of each bytes at most.
func (r *Reader) Row(most, each int) []string {
	start := r.place
	var row []string
	count := r.Number(min(most, api.MaxRow))
	if r.err != api.OK {
		goto wrong
	}
	for range count {
		s := r.String(each)
		if r.err != api.OK {
			goto wrong
		}
		row = append(row, s)
	}
	return row

wrong:
	// Strings of the row may have been read already: the row is read as a whole, or not at all.
	r.place = start
	return nil
}

// Err is the error; OK, if there is none.
func (r *Reader) Err() api.Errno {
	return r.err
}

// At is the place where the next one is read.
func (r *Reader) At() int {
	return r.place
}

// End is the error; bytes that are left are one from then on, so that nobody reads on behind an end that was none.
func (r *Reader) End() api.Errno {
	if r.err == api.OK && r.left() > 0 {
		r.err = api.ErrForm
	}
	return r.err
}

// left is how many bytes are behind the place.
func (r *Reader) left() int {
	return len(r.data) - r.place
}
