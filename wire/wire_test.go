package wire

import (
	"errors"
	"hash/crc32"
	"math/rand/v2"
	"slices"
	"strings"
	"testing"

	"annal/api"
	"annal/table"
)

func frame(body string) string {
	return little(len(body), 2) + little(int(crc32.Checksum([]byte(body), crc32.MakeTable(crc32.Castagnoli))), 4) + body
}

func little(value, size int) string {
	var b []byte
	for i := range size {
		b = append(b, byte(value>>(8*i)))
	}
	return string(b)
}

func batchBody(b Batch) string {
	s := little(b.Number, 4) + little(len(b.Txns), 1)
	for _, txn := range b.Txns {
		s += little(len(txn), 1)
		for _, op := range txn {
			s += little(op.Kind, 1) + little(op.K, 1)
			switch op.Kind {
			case api.Put, api.Add, api.Need:
				s += little(op.A, 8)
			case api.Sum:
				s += little(op.A, 1) + little(op.B, 1)
			}
		}
	}
	return s
}

func TestCheck(t *testing.T) {
	if c := checkOf("123456789"); c != 0xe3069283 {
		t.Errorf("the check of 123456789 is %x", c)
	}
	random := rand.New(rand.NewPCG(3, 4))
	for size := range 300 {
		b := make([]byte, size)
		for i := range b {
			b[i] = byte(random.Uint32())
		}
		if c, want := checkOf(string(b)), crc32.Checksum(b, crc32.MakeTable(crc32.Castagnoli)); c != want {
			t.Fatalf("the check of %x is %x, want %x", b, c, want)
		}
	}
}

func TestFrame(t *testing.T) {
	long := strings.Repeat("abc", 21845)
	for _, body := range []string{"", "x", long} {
		got, rest, err := Frame(frame(body) + "behind")
		if got != body || rest != "behind" || err != nil {
			t.Errorf("a body of %d bytes: %d, %q, %v", len(body), len(got), rest, err)
		}
	}
	whole := frame("some body")
	for cut := range len(whole) {
		if body, rest, err := Frame(whole[:cut]); body != "" || rest != "" || !errors.Is(err, ErrShort) {
			t.Errorf("cut at %d: %q, %q, %v", cut, body, rest, err)
		}
	}
	for at := range len(whole) {
		b := []byte(whole + strings.Repeat("z", 300))
		b[at] ^= 1
		if _, _, err := Frame(string(b)); err == nil {
			t.Errorf("another byte at %d is not seen", at)
		}
	}
	if _, _, err := Frame(little(1, 2) + little(0, 4) + "x"); !errors.Is(err, ErrCheck) {
		t.Errorf("a wrong check: %v", err)
	}
}

func TestFrameOf(t *testing.T) {
	if got, want := FrameOf("\x00\x00\x00\x00\x01\x00\x00\x00"), "\x08\x00\x32\x18\x6d\x51\x00\x00\x00\x00\x01\x00\x00\x00"; got != want {
		t.Errorf("the document's manifest: %x, want %x", got, want)
	}
	for _, size := range []int{0, 1, 255, 256, 653, 65535} {
		body := strings.Repeat("\xfe", size)
		if got, want := FrameOf(body), frame(body); got != want {
			t.Errorf("a body of %d bytes: %x, want %x", size, got[:6], want[:6])
		}
	}
}

func TestBatchBytes(t *testing.T) {
	example := Batch{Number: 1, Txns: [][]api.Op{{{Kind: api.Put, K: 5, A: 7}}}}
	if got := example.Bytes(); got != "\x01\x00\x00\x00\x01\x01\x01\x05\x07\x00\x00\x00\x00\x00\x00\x00" {
		t.Errorf("the document's batch: %x", got)
	}
	full := Batch{Number: 65536, Txns: slices.Repeat([][]api.Op{slices.Repeat([]api.Op{{Kind: api.Add, K: 9, A: -256}}, 8)}, 8)}
	for _, b := range []Batch{everyKind(), full} {
		if got, want := b.Bytes(), batchBody(b); got != want {
			t.Errorf("%v: %x, want %x", b, got, want)
		}
	}
}

func TestReadBatch(t *testing.T) {
	example := "\x01\x00\x00\x00\x01\x01\x01\x05\x07\x00\x00\x00\x00\x00\x00\x00"
	b, err := ReadBatch(example)
	if err != nil || b.Number != 1 || len(b.Txns) != 1 || !slices.Equal(b.Txns[0], []api.Op{{Kind: api.Put, K: 5, A: 7}}) {
		t.Errorf("the document's example: %v, %v", b, err)
	}
	every := everyKind()
	b, err = ReadBatch(batchBody(every))
	if err != nil || b.Number != every.Number || !slices.EqualFunc(b.Txns, every.Txns, slices.Equal) {
		t.Errorf("a batch of every kind: %v, %v", b, err)
	}
	full := Batch{Number: 1, Txns: slices.Repeat([][]api.Op{slices.Repeat([]api.Op{{Kind: api.Need, A: -1}}, 8)}, 8)}
	if _, err = ReadBatch(batchBody(full)); err != nil {
		t.Errorf("the longest batch: %v", err)
	}
}

func everyKind() Batch {
	return Batch{Number: api.MaxNumber, Txns: [][]api.Op{
		{{Kind: api.Put, K: 63, A: -1 << 63}, {Kind: api.Del, K: 1}, {Kind: api.Add, K: 2, A: -1}},
		{{Kind: api.Need, K: 3, A: 1<<63 - 1}},
		{{Kind: api.Lack, K: 4}, {Kind: api.Sum, K: 5, A: 6, B: 63}},
	}}
}

func TestReadNoBatch(t *testing.T) {
	op := "\x02\x05" // Del 5
	for k, body := range []string{
		"", "\x01", little(1, 4), little(1, 4) + "\x00", little(1, 4) + "\x01", little(1, 4) + "\x01\x00", little(1, 4) + "\x01\x01", little(1, 4) + "\x01\x02" + op,
		little(0, 4) + "\x01\x01" + op, little(api.MaxNumber+1, 4) + "\x01\x01" + op, little(-1, 4) + "\x01\x01" + op,
		little(1, 4) + "\x01\x01" + op + "\x00", little(1, 4) + "\x01\x01\x00\x05", little(1, 4) + "\x01\x01\x07\x05", little(1, 4) + "\x01\x01\x02\x40", little(1, 4) + "\x01\x01\x02\xff",
		little(1, 4) + "\x01\x01\x06\x05\x40\x00", little(1, 4) + "\x01\x01\x06\x05\x00\x40", little(1, 4) + "\x01\x01\x06\x05\x00", little(1, 4) + "\x01\x01\x01\x05\x00\x00\x00\x00\x00\x00\x00",
		little(1, 4) + "\x09" + strings.Repeat("\x01"+op, 9), little(1, 4) + "\x01\x09" + strings.Repeat(op, 9), little(1, 4) + strings.Repeat("\xff", 1000), little(1, 4) + "\xff\xff",
	} {
		if b, err := ReadBatch(body); !errors.Is(err, ErrBatch) || b.Number != 0 || b.Txns != nil {
			t.Errorf("line %d: %v, %v", k, b, err)
		}
	}
}

// What is read is a batch whose bytes are these: no two texts are the same batch, and none is read otherwise than it stands.
func TestReadBatchOtherBytes(t *testing.T) {
	body := batchBody(everyKind())
	for at := range len(body) {
		for v := range 256 {
			other := body[:at] + string([]byte{byte(v)}) + body[at+1:]
			if b, err := ReadBatch(other); err == nil && (batchBody(b) != other || !table.IsBatch(b.Txns)) {
				t.Errorf("byte %d is %d: %v", at, v, b)
			}
		}
		if _, err := ReadBatch(body[:at]); err == nil {
			t.Errorf("cut at %d", at)
		}
	}
}

// pages: keys 0, 7, 8 and 63 have values.
func pages() []string {
	list := slices.Repeat([]string{frame("\x00")}, 8)
	list[0] = frame("\x81" + little(-3, 8) + little(1<<40, 8))
	list[1] = frame("\x01" + little(0, 8))
	list[7] = frame("\x80" + little(9, 8))
	return list
}

func TestReadCheckpoint(t *testing.T) {
	var want table.Table
	for k, v := range map[int]int{0: -3, 7: 1 << 40, 8: 0, 63: 9} {
		want.Put(k, v)
	}
	for _, number := range []int{1, 258, api.MaxNumber} {
		if got, err := ReadCheckpoint(strings.Join(pages(), "")+frame("end"+little(number, 4)), number); got != want || err != nil {
			t.Errorf("checkpoint %d: %v, %v", number, got, err)
		}
	}
	full := strings.Repeat(frame("\xff"+strings.Repeat("\x01", 64)), 8) + frame("end"+little(1, 4))
	got, err := ReadCheckpoint(full, 1)
	for k := range api.Keys {
		if v, has := got.Get(k); err != nil || !has || v != 0x0101010101010101 {
			t.Errorf("a full table: key %d: %d, %v, %v", k, v, has, err)
		}
	}
}

func TestReadNoCheckpoint(t *testing.T) {
	list := pages()
	all, end := strings.Join(list, ""), frame("end"+little(2, 4))
	for k, c := range []struct {
		data string
		want error
	}{
		{"", ErrShort}, {all, ErrShort}, {end, ErrPage}, {strings.Join(list[1:], "") + end, ErrPage}, {all + list[2] + end, ErrEnd},
		{all + end + "x", ErrEnd}, {all + end + end, ErrEnd}, {all + frame("end"+little(3, 4)), ErrEnd}, {all + frame("end"), ErrEnd}, {all + frame("end"+little(2, 3)), ErrEnd}, {all + frame("end"+little(2, 5)), ErrEnd}, {all + frame("END"+little(2, 4)), ErrEnd}, {all + frame(""), ErrEnd}, {all + frame(little(2, 4)), ErrEnd},
		{frame("") + strings.Join(list[1:], "") + end, ErrPage}, {frame("\x00\x00") + strings.Join(list[1:], "") + end, ErrPage}, {frame("\x01"+little(1, 7)) + strings.Join(list[1:], "") + end, ErrPage}, {frame("\x01"+little(1, 9)) + strings.Join(list[1:], "") + end, ErrPage}, {frame("\x03"+little(1, 8)) + strings.Join(list[1:], "") + end, ErrPage},
		{(all + end)[:len(all+end)-1], ErrShort}, {"\x01\x00\x00\x00\x00\x00\x00" + all[7:] + end, ErrCheck},
	} {
		if got, err := ReadCheckpoint(c.data, 2); !errors.Is(err, c.want) || got != (table.Table{}) {
			t.Errorf("line %d: %v, want %v", k, err, c.want)
		}
	}
}

func TestReadManifest(t *testing.T) {
	for _, m := range []Manifest{{0, 1}, {1, 1}, {258, 65537}, {api.MaxNumber, api.MaxNumber}} {
		if got, err := ReadManifest(frame(little(m.Checkpoint, 4) + little(m.Segment, 4))); got != m || err != nil {
			t.Errorf("%v: %v, %v", m, got, err)
		}
	}
	good := frame(little(0, 4) + little(1, 4))
	for k, c := range []struct {
		data string
		want error
	}{
		{"", ErrShort}, {good[:len(good)-1], ErrShort}, {good[:6] + "\x01" + good[7:], ErrCheck}, {good + "x", ErrManifest}, {good + good, ErrManifest},
		{frame(""), ErrManifest}, {frame(little(0, 4) + little(1, 3)), ErrManifest}, {frame(little(0, 4) + little(1, 5)), ErrManifest},
		{frame(little(0, 4) + little(0, 4)), ErrManifest}, {frame(little(0, 4) + little(api.MaxNumber+1, 4)), ErrManifest}, {frame(little(api.MaxNumber+1, 4) + little(1, 4)), ErrManifest}, {frame(little(-1, 4) + little(1, 4)), ErrManifest}, {frame(little(1, 4) + little(-1, 4)), ErrManifest},
	} {
		if got, err := ReadManifest(c.data); !errors.Is(err, c.want) || got != (Manifest{}) {
			t.Errorf("line %d: %v, %v, want %v", k, got, err, c.want)
		}
	}
}

func TestManifestBytes(t *testing.T) {
	if got, want := (Manifest{0, 1}).Bytes(), "\x08\x00\x32\x18\x6d\x51\x00\x00\x00\x00\x01\x00\x00\x00"; got != want {
		t.Errorf("the document's manifest: %x, want %x", got, want)
	}
	for _, m := range []Manifest{{1, 1}, {258, 65537}, {api.MaxNumber, api.MaxNumber}} {
		if got, want := m.Bytes(), frame(little(m.Checkpoint, 4)+little(m.Segment, 4)); got != want {
			t.Errorf("%v: %x, want %x", m, got, want)
		}
	}
}

func TestPageFrame(t *testing.T) {
	var table table.Table
	for k, v := range map[int]int{0: -3, 7: 1 << 40, 8: 0, 63: 9} {
		table.Put(k, v)
	}
	for page, want := range pages() {
		if got := PageFrame(&table, page); got != want {
			t.Errorf("page %d: %x, want %x", page, got, want)
		}
	}
	for k := range api.Keys {
		table.Put(k, k<<56-1)
	}
	for page := range api.Pages {
		want := "\xff"
		for i := range api.PageKeys {
			want += little((page*api.PageKeys+i)<<56-1, 8)
		}
		if got := PageFrame(&table, page); got != frame(want) {
			t.Errorf("page %d of a full table: %x, want %x", page, got, frame(want))
		}
	}
}

func TestEndFrame(t *testing.T) {
	for _, number := range []int{1, 258, api.MaxNumber} {
		if got, want := EndFrame(number), frame("end"+little(number, 4)); got != want {
			t.Errorf("the end of %d: %x, want %x", number, got, want)
		}
	}
}
