package wire

const (
	numberBytes = 4 // of a batch, a checkpoint or a segment
	valueBytes  = 8
)

// appendNumber writes a number in so many bytes, the lowest first.
func appendNumber(data []byte, value, size int) []byte {
	for range size {
		data = append(data, byte(value))
		value >>= 8
	}
	return data
}
