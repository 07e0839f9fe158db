package message

import "parlour/api"

// letter is a message whose fields are got and put one by one.
type letter struct{ api.Msg }

// place tells where a field of a packet goes in a letter.
type place func(*letter) slot

// slot is one field of one letter: its kind in a packet, and what gets and puts it.
type slot struct {
	kind int
	get  func() (api.Field, api.Errno)
	put  func(api.Field) api.Errno
}

func (l *letter) channel() slot { return number{&l.Chan}.slot() }

func (l *letter) sender() slot { return number{&l.Sender}.slot() }

func (l *letter) window() slot { return number{&l.Window}.slot() }

func (l *letter) packet() slot { return number{&l.Packet}.slot() }

func (l *letter) code() slot { return number{&l.Code}.slot() }

func (l *letter) want() slot {
	t := truth{&l.Want}
	return slot{api.Bool, t.get, t.put}
}

func (l *letter) name() slot { return word{&l.Name, 1}.slot() }

func (l *letter) lang() slot { return word{&l.Lang, 0}.slot() }

func (l *letter) text() slot { return l.data(api.String) }

func (l *letter) rest() slot { return l.data(api.Rest) }

// data is the slot of a message's bytes, which some kinds have with their length ahead, and some without.
func (l *letter) data(kind int) slot {
	d := data{&l.Data}
	return slot{kind, d.get, d.put}
}

// number is a number of a letter.
type number struct{ at *uint32 }

func (n number) slot() slot { return slot{api.Uint32, n.get, n.put} }

func (n number) get() (api.Field, api.Errno) { return api.Field{N: *n.at}, api.OK }

func (n number) put(f api.Field) api.Errno {
	*n.at = f.N
	return api.OK
}

// truth is what holds or doesn't in a letter.
type truth struct{ at *bool }

func (t truth) get() (api.Field, api.Errno) {
	if *t.at {
		return api.Field{N: 1}, api.OK
	}
	return api.Field{}, api.OK
}

func (t truth) put(f api.Field) api.Errno {
	*t.at = f.N != 0
	return api.OK
}

// data is bytes of a letter, any of them.
type data struct{ at *[]byte }

func (d data) get() (api.Field, api.Errno) { return api.Field{Text: *d.at}, api.OK }

func (d data) put(f api.Field) api.Errno {
	*d.at = f.Text
	return api.OK
}

// word is a text of a letter that may be only some bytes, at least so many.
type word struct {
	at    *string
	least int
}

func (w word) slot() slot { return slot{api.String, w.get, w.put} }

func (w word) get() (api.Field, api.Errno) {
	if !w.right() {
		return api.Field{}, api.ErrForm
	}
	return api.Field{Text: []byte(*w.at)}, api.OK
}

func (w word) put(f api.Field) api.Errno {
	*w.at = string(f.Text)
	if !w.right() {
		return api.ErrForm
	}
	return api.OK
}

// right says whether a word may be.
func (w word) right() bool {
	s := *w.at
	if len(s) < w.least || len(s) > api.MaxName {
		return false
	}
	for i := range len(s) {
		if s[i] < 33 || s[i] > 126 {
			return false
		}
	}
	return true
}
