package wire

import (
	"errors"
	"strings"

	"annal/api"
	"annal/table"
)

var (
	ErrPage = errors.New("the body is not that of a page")
	ErrEnd  = errors.New("the end is not that of this checkpoint")
)

const endMark = "end"

// ReadCheckpoint reads the table of the checkpoint of that batch.
func ReadCheckpoint(data string, batch int) (table.Table, error) {
	var t table.Table
	for page := range api.Pages {
		body, rest, err := Frame(data)
		if err == nil {
			err = readPage(&t, page, body)
		}
		if err != nil {
			return table.Table{}, err
		}
		data = rest
	}
	if err := readEnd(data, batch); err != nil {
		return table.Table{}, err
	}
	return t, nil
}

func readPage(t *table.Table, page int, body string) error {
	r := reader{rest: body}
	has := r.number(1)
	for i := range api.PageKeys {
		if has>>i&1 == 1 {
			t.Put(page*api.PageKeys+i, int(r.number(valueBytes)))
		}
	}
	if !r.ended() {
		return ErrPage
	}
	return nil
}

func readEnd(data string, batch int) error {
	body, rest, err := Frame(data)
	if err != nil {
		return err
	}
	number, marked := strings.CutPrefix(body, endMark)
	r := reader{rest: number}
	if !marked || int(r.number(numberBytes)) != batch || !r.ended() || rest != "" {
		return ErrEnd
	}
	return nil
}

// PageFrame is the frame of a page of the table. Those of all pages and the EndFrame are what ReadCheckpoint reads.
func PageFrame(t *table.Table, page int) string {
	has := 0
	var values []byte
	for i := range api.PageKeys {
		if value, there := t.Get(page*api.PageKeys + i); there {
			has |= 1 << i
			values = appendNumber(values, value, valueBytes)
		}
	}
	return FrameOf(string(appendNumber(nil, has, 1)) + string(values))
}

// EndFrame is the frame of the end of the checkpoint of that batch.
func EndFrame(batch int) string {
	return FrameOf(endMark + string(appendNumber(nil, batch, numberBytes)))
}
