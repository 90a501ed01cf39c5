// Package wire: the bytes that the files of an annal are made of, read and written.
package wire

import "errors"

var (
	ErrShort = errors.New("a frame is not whole")
	ErrCheck = errors.New("the check of a frame is wrong")
)

const (
	lengthBytes = 2
	checkBytes  = 4

	checkStart = 4294967295
	checkTaps  = 2197175160
)

// Frame splits the first frame off: its body, and what stands behind it.
func Frame(data string) (body, rest string, err error) {
	r := reader{rest: data}
	length := int(r.number(lengthBytes))
	check := uint32(r.number(checkBytes))
	if r.short || len(r.rest) < length {
		return "", "", ErrShort
	}
	body, rest = r.rest[:length], r.rest[length:]
	if checkOf(body) != check {
		return "", "", ErrCheck
	}
	return body, rest, nil
}

// FrameOf is the frame of a body, whose length must be one of two bytes.
func FrameOf(body string) string {
	head := appendNumber(nil, len(body), lengthBytes)
	head = appendNumber(head, int(checkOf(body)), checkBytes)
	return string(head) + body
}

func checkOf(body string) uint32 {
	check := uint32(checkStart)
	for i := range len(body) {
		check ^= uint32(body[i])
		for range 8 {
			low := check & 1
			check >>= 1
			if low == 1 {
				check ^= checkTaps
			}
		}
	}
	return ^check
}
