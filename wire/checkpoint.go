package wire

import (
	"errors"
	"strings"

	"annal/api"
	"annal/table"
)

var (
	ErrPage = errors.New("the body is not that of a page")
	ErrEnd  = errors.New("the end is not that of this checkpoint")
)

// ReadCheckpoint reads the table of the checkpoint of that batch.
func ReadCheckpoint(data string, batch int) (table.Table, error) {
	var t table.Table
	for page := range api.Pages {
		body, rest, err := Frame(data)
		if err == nil {
			err = readPage(&t, page, body)
		}
		if err != nil {
			return table.Table{}, err
		}
		data = rest
	}
	if err := readEnd(data, batch); err != nil {
		return table.Table{}, err
	}
	return t, nil
}

func readPage(t *table.Table, page int, body string) error {
	r := reader{rest: body}
	has := r.number(1)
	for i := range api.PageKeys {
		if has>>i&1 == 1 {
			t.Put(page*api.PageKeys+i, int(r.number(valueBytes)))
		}
	}
	if !r.ended() {
		return ErrPage
	}
	return nil
}

func readEnd(data string, batch int) error {
	body, rest, err := Frame(data)
	if err != nil {
		return err
	}
	number, marked := strings.CutPrefix(body, "end")
	r := reader{rest: number}
	if !marked || int(r.number(numberBytes)) != batch || !r.ended() || rest != "" {
		return ErrEnd
	}
	return nil
}
