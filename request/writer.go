package request

import (
	"strings"

	"parlour/api"
)

// writer is a request, the fields that were written of it, and what is wrong with them.
type writer struct {
	api.Req
	fields  []api.Field
	badWord bool
	tooLong bool
}

func (w *writer) putNothing() {}

func (w *writer) putTerminal() {
	w.word(w.Text, 0)
	w.putSize()
	w.text(w.Modes)
}

func (w *writer) putVariable() {
	w.putName()
	if strings.Contains(w.Text, "=") {
		w.badWord = true
	}
	w.text([]byte(w.Value))
}

func (w *writer) putCommand() { w.text([]byte(w.Text)) }

func (w *writer) putName() { w.word(w.Text, 1) }

func (w *writer) putSize() {
	w.number(w.Size.Cols)
	w.number(w.Size.Rows)
	w.number(w.Size.Width)
	w.number(w.Size.Height)
}

func (w *writer) putOn() {
	f := api.Field{Kind: api.Bool}
	if w.On {
		f.N = 1
	}
	w.fields = append(w.fields, f)
}

func (w *writer) putCode() { w.number(w.Code) }

func (w *writer) putEnd() {
	w.putName()
	w.putOn()
	w.text([]byte(w.Value))
	w.word(w.Lang, 0)
}

func (w *writer) number(n uint32) {
	w.fields = append(w.fields, api.Field{Kind: api.Uint32, N: n})
}

// text puts bytes that may be any, but not too many.
func (w *writer) text(b []byte) {
	if len(b) > api.MaxText {
		w.tooLong = true
	}
	w.fields = append(w.fields, api.Field{Kind: api.String, Text: b})
}

// word puts a text that may be only some bytes, at least so many.
func (w *writer) word(s string, least int) {
	if len(s) < least || !wordRight(s) {
		w.badWord = true
	}
	w.fields = append(w.fields, api.Field{Kind: api.String, Text: []byte(s)})
}

// fault is what is wrong: a bad word is told ahead of a text that is too long, wherever they stand.
func (w *writer) fault() api.Errno {
	switch {
	case w.badWord:
		return api.ErrForm
	case w.tooLong:
		return api.ErrFull
	}
	return api.OK
}

// wordRight says whether a text is short enough for a word, and of its bytes alone.
func wordRight(s string) bool {
	if len(s) > api.MaxName {
		return false
	}
	for i := range len(s) {
		if s[i] < 33 || s[i] > 126 {
			return false
		}
	}
	return true
}
