package request

import "parlour/api"

// reader is a request that is put together, and the fields that weren't taken for it yet.
type reader struct {
	api.Req
	left []api.Field
}

func (r *reader) getNothing() {}

func (r *reader) getTerminal() {
	r.getText()
	r.getSize()
	r.Modes = r.next().Text
}

func (r *reader) getVariable() {
	r.getText()
	r.getValue()
}

func (r *reader) getText() { r.Text = string(r.next().Text) }

func (r *reader) getValue() { r.Value = string(r.next().Text) }

func (r *reader) getSize() {
	r.Size.Cols = r.next().N
	r.Size.Rows = r.next().N
	r.Size.Width = r.next().N
	r.Size.Height = r.next().N
}

func (r *reader) getOn() { r.On = r.next().N == 1 }

func (r *reader) getCode() { r.Code = r.next().N }

func (r *reader) getEnd() {
	r.getText()
	r.getOn()
	r.getValue()
	r.Lang = string(r.next().Text)
}

// next takes the first field that is left; layer 1's Read answers just as many as the row asked for.
func (r *reader) next() api.Field {
	f := r.left[0]
	r.left = r.left[1:]
	return f
}
