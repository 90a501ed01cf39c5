package wire

// reader takes numbers off the front of bytes. Once it has run short it stays so: its user asks once, at the end.
type reader struct {
	rest  string
	short bool
}

// number takes a number in so many bytes, the lowest first; 0, if there are not as many.
func (r *reader) number(size int) uint64 {
	if len(r.rest) < size {
		r.rest, r.short = "", true
		return 0
	}
	value := uint64(0)
	for i := size - 1; i >= 0; i-- {
		value = value<<8 | uint64(r.rest[i])
	}
	r.rest = r.rest[size:]
	return value
}

// ended tells whether all that was taken was there, and nothing is behind it.
func (r *reader) ended() bool {
	return !r.short && r.rest == ""
}
