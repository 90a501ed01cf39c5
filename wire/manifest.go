package wire

import (
	"errors"

	"annal/api"
)

var ErrManifest = errors.New("it is not one frame of a checkpoint's and a segment's number")

// Manifest names a checkpoint (0: none) and the segment with which the log begins.
type Manifest struct {
	Checkpoint, Segment int
}

// ReadManifest reads the bytes of the file.
func ReadManifest(data string) (Manifest, error) {
	body, rest, err := Frame(data)
	if err != nil {
		return Manifest{}, err
	}
	r := reader{rest: body}
	var m Manifest
	m.Checkpoint = int(r.number(numberBytes))
	m.Segment = int(r.number(numberBytes))
	if rest != "" || !r.ended() || m.Checkpoint > api.MaxNumber || m.Segment < 1 || m.Segment > api.MaxNumber {
		return Manifest{}, ErrManifest
	}
	return m, nil
}

// Bytes are those from which ReadManifest reads the manifest.
func (m Manifest) Bytes() string {
	body := appendNumber(nil, m.Checkpoint, numberBytes)
	body = appendNumber(body, m.Segment, numberBytes)
	return FrameOf(string(body))
}
