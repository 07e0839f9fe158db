package message_test

import (
	"bytes"
	"math"
	"strings"
	"testing"

	"parlour/api"
	"parlour/message"
)

// rep is a text of so many bytes.
func rep(n int) string { return strings.Repeat("x", n) }

// u is a number as it stands in a payload.
func u(n uint32) string { return string([]byte{byte(n >> 24), byte(n >> 16), byte(n >> 8), byte(n)}) }

// str is a text with its length ahead.
func str(s string) string { return u(uint32(len(s))) + s }

func same(a, b api.Msg) bool {
	return a.Kind == b.Kind && a.Chan == b.Chan && a.Sender == b.Sender && a.Window == b.Window && a.Packet == b.Packet &&
		a.Code == b.Code && a.Name == b.Name && a.Lang == b.Lang && a.Want == b.Want && bytes.Equal(a.Data, b.Data)
}

// bare says whether a message is the zero one.
func bare(m api.Msg) bool { return same(m, api.Msg{}) }

// all are the kinds that there are.
var all = []int{1, 80, 81, 82, 90, 91, 92, 93, 94, 95, 96, 97, 98, 99, 100}

// full is a message all of whose fields say something.
func full(kind int) api.Msg {
	return api.Msg{Kind: kind, Chan: 0x01020304, Sender: 0x11121314, Window: 0x21222324, Packet: 0x31323334,
		Code: 0x41424344, Name: "name", Lang: "lang", Want: true, Data: []byte("data")}
}

type pair struct {
	what string
	m    api.Msg
	b    string
}

// pairs are messages with no field but their kinds' own, and their payloads.
func pairs() []pair {
	return []pair{
		{"Disconnect", api.Msg{Kind: api.Disconnect, Code: 0x01020304, Data: []byte("no"), Lang: "en"}, "\x01" + u(0x01020304) + str("no") + str("en")},
		{"an empty Disconnect", api.Msg{Kind: api.Disconnect}, "\x01" + u(0) + u(0) + u(0)},
		{"the longest Disconnect", api.Msg{Kind: api.Disconnect, Code: math.MaxUint32, Data: []byte(rep(32768)), Lang: rep(64)}, "\x01\xff\xff\xff\xff" + str(rep(32768)) + str(rep(64))},
		{"GlobalRequest", api.Msg{Kind: api.GlobalRequest, Name: "a@b", Want: true, Data: []byte("zy")}, "\x50" + str("a@b") + "\x01zy"},
		{"a GlobalRequest without answer", api.Msg{Kind: api.GlobalRequest, Name: "a"}, "\x50" + str("a") + "\x00"},
		{"RequestSuccess", api.Msg{Kind: api.RequestSuccess, Data: []byte("\x00\xff")}, "\x51\x00\xff"},
		{"an empty RequestSuccess", api.Msg{Kind: api.RequestSuccess}, "\x51"},
		{"the longest RequestSuccess", api.Msg{Kind: api.RequestSuccess, Data: []byte(rep(33791))}, "\x51" + rep(33791)},
		{"RequestFailure", api.Msg{Kind: api.RequestFailure}, "\x52"},
		{"Open", api.Msg{Kind: api.Open, Name: "session", Sender: 1, Window: 0x200, Packet: 0x30000, Data: []byte("d")}, "\x5a" + str("session") + u(1) + u(0x200) + u(0x30000) + "d"},
		{"an Open of the longest name", api.Msg{Kind: api.Open, Name: rep(64)}, "\x5a" + str(rep(64)) + u(0) + u(0) + u(0)},
		{"OpenConfirm", api.Msg{Kind: api.OpenConfirm, Chan: 9, Sender: 1, Window: 2, Packet: 3, Data: []byte("d")}, "\x5b" + u(9) + u(1) + u(2) + u(3) + "d"},
		{"OpenFailure", api.Msg{Kind: api.OpenFailure, Chan: 9, Code: 4, Data: []byte("why"), Lang: "de"}, "\x5c" + u(9) + u(4) + str("why") + str("de")},
		{"WindowAdjust", api.Msg{Kind: api.WindowAdjust, Chan: 9, Window: math.MaxUint32}, "\x5d" + u(9) + "\xff\xff\xff\xff"},
		{"the document's Data", api.Msg{Kind: api.Data, Chan: 7, Data: []byte("hi")}, "\x5e\x00\x00\x00\x07\x00\x00\x00\x02hi"},
		{"empty Data", api.Msg{Kind: api.Data}, "\x5e" + u(0) + u(0)},
		{"the longest Data", api.Msg{Kind: api.Data, Chan: 1, Data: []byte(rep(32768))}, "\x5e" + u(1) + str(rep(32768))},
		{"ExtendedData", api.Msg{Kind: api.ExtendedData, Chan: 7, Code: 1, Data: []byte("e")}, "\x5f" + u(7) + u(1) + str("e")},
		{"Eof", api.Msg{Kind: api.Eof, Chan: 0x07000001}, "\x60\x07\x00\x00\x01"},
		{"Close", api.Msg{Kind: api.Close, Chan: math.MaxUint32}, "\x61\xff\xff\xff\xff"},
		{"ChanRequest", api.Msg{Kind: api.ChanRequest, Chan: 7, Name: "exec", Want: true, Data: []byte(str("ls"))}, "\x62" + u(7) + str("exec") + "\x01" + str("ls")},
		{"a ChanRequest without answer", api.Msg{Kind: api.ChanRequest, Name: "!,~"}, "\x62" + u(0) + str("!,~") + "\x00"},
		{"ChanSuccess", api.Msg{Kind: api.ChanSuccess, Chan: 8}, "\x63" + u(8)},
		{"ChanFailure", api.Msg{Kind: api.ChanFailure, Chan: 8}, "\x64" + u(8)},
	}
}

// P3.1 to P3.3: each kind's payload, there and back.
func TestPayloads(t *testing.T) {
	for _, x := range pairs() {
		b, e := message.Encode(x.m)
		if string(b) != x.b || e != api.OK {
			t.Errorf("%s: encoded as %.40x, error %d", x.what, b, e)
		}
		m, e := message.Decode([]byte(x.b))
		if !same(m, x.m) || e != api.OK {
			t.Errorf("%s: decoded as %.200v, error %d", x.what, m, e)
		}
	}
}

// P3.3: of a message all of whose fields say something, a kind's row takes its own alone, in order.
func TestRows(t *testing.T) {
	m := full(0)
	rows := map[int]string{
		1: u(m.Code) + str("data") + str("lang"), 80: str("name") + "\x01data", 81: "data", 82: "",
		90: str("name") + u(m.Sender) + u(m.Window) + u(m.Packet) + "data", 91: u(m.Chan) + u(m.Sender) + u(m.Window) + u(m.Packet) + "data",
		92: u(m.Chan) + u(m.Code) + str("data") + str("lang"), 93: u(m.Chan) + u(m.Window), 94: u(m.Chan) + str("data"),
		95: u(m.Chan) + u(m.Code) + str("data"), 96: u(m.Chan), 97: u(m.Chan), 98: u(m.Chan) + str("name") + "\x01data", 99: u(m.Chan), 100: u(m.Chan),
	}
	for _, kind := range all {
		b, e := message.Encode(full(kind))
		want := string([]byte{byte(kind)}) + rows[kind]
		if string(b) != want || e != api.OK {
			t.Errorf("kind %d: %x, error %d", kind, b, e)
		}
		m, e := message.Decode(b)
		back, e2 := message.Encode(m)
		if string(back) != want || e != api.OK || e2 != api.OK {
			t.Errorf("kind %d: back %x, errors %d and %d", kind, back, e, e2)
		}
	}
}

// P3.1: what may not be in a field that the kind hasn't is no error.
func TestFieldsOfOtherKinds(t *testing.T) {
	for _, x := range pairs() {
		m := x.m
		if !hasName(m.Kind) {
			m.Name = "a b"
		}
		if !hasLang(m.Kind) {
			m.Lang = rep(65)
		}
		if !hasData(m.Kind) {
			m.Data = make([]byte, 40000)
		}
		if b, e := message.Encode(m); string(b) != x.b || e != api.OK {
			t.Errorf("%s: %.40x, error %d", x.what, b, e)
		}
	}
}

func hasName(kind int) bool { return kind == 80 || kind == 90 || kind == 98 }
func hasLang(kind int) bool { return kind == 1 || kind == 92 }
func hasRest(kind int) bool { return hasName(kind) || kind == 81 || kind == 91 }
func hasData(kind int) bool {
	return kind != 82 && kind != 93 && kind != 96 && kind != 97 && kind < 99
}

// P3.1 and P3.2: kinds that there aren't.
func TestKinds(t *testing.T) {
	for _, kind := range []int{math.MinInt, -100, -1, 101, 255, 256, 257, 256 + 94, 1<<32 + 94, math.MaxInt} {
		if b, e := message.Encode(full(kind)); e != api.ErrNone || b != nil {
			t.Errorf("kind %d: %x, error %d", kind, b, e)
		}
	}
	for first := range 256 {
		there := bytes.IndexByte([]byte("\x01\x50\x51\x52\x5a\x5b\x5c\x5d\x5e\x5f\x60\x61\x62\x63\x64"), byte(first)) >= 0
		b, e := message.Encode(full(first))
		if there != (e == api.OK) || there != (len(b) > 0) || !there && e != api.ErrNone {
			t.Errorf("kind %d: %x, error %d", first, b, e)
		}
		for _, behind := range []string{"", "\x00", rep(40000)} {
			m, e := message.Decode([]byte(string([]byte{byte(first)}) + behind))
			if there == (e == api.ErrNone) || !there && !bare(m) {
				t.Errorf("first byte %d, %d behind: %v, error %d", first, len(behind), m, e)
			}
		}
	}
}

// P3.1: what may not be encoded, and which of several errors is told.
func TestEncodeWrong(t *testing.T) {
	much := make([]byte, 40000)
	for _, x := range []struct {
		what string
		m    api.Msg
		e    api.Errno
	}{
		{"no kind", api.Msg{}, api.ErrNone},
		{"no kind, and a bad name", api.Msg{Kind: 83, Name: " ", Lang: " ", Data: much}, api.ErrNone},
		{"bytes too many", api.Msg{Kind: api.Data, Data: make([]byte, 32769)}, api.ErrFull},
		{"bytes too many, extended", api.Msg{Kind: api.ExtendedData, Data: make([]byte, 32769)}, api.ErrFull},
		{"bytes too many of a failure", api.Msg{Kind: api.OpenFailure, Data: make([]byte, 32769)}, api.ErrFull},
		{"bytes too many of a disconnect", api.Msg{Kind: api.Disconnect, Data: make([]byte, 32769)}, api.ErrFull},
		{"a packet too long by its kind", api.Msg{Kind: api.RequestSuccess, Data: make([]byte, 33792)}, api.ErrFull},
		{"a rest too long", api.Msg{Kind: api.RequestSuccess, Data: make([]byte, 33793)}, api.ErrFull},
		{"an open too long", api.Msg{Kind: api.Open, Name: "n", Data: make([]byte, 33792-17)}, api.ErrFull},
		{"an open just not too long", api.Msg{Kind: api.Open, Name: "n", Data: make([]byte, 33792-18)}, api.OK},
		{"a bad name and bytes too many", api.Msg{Kind: api.ChanRequest, Data: much}, api.ErrForm},
		{"a bad lang and bytes too many", api.Msg{Kind: api.OpenFailure, Data: much, Lang: "\x00"}, api.ErrForm},
		{"a name longer than a text may be", api.Msg{Kind: api.Open, Name: rep(40000)}, api.ErrForm},
		{"a lang longer than a text may be", api.Msg{Kind: api.Disconnect, Lang: rep(40000)}, api.ErrForm},
	} {
		if b, e := message.Encode(x.m); e != x.e || e != api.OK && b != nil {
			t.Errorf("%s: %d bytes, error %d", x.what, len(b), e)
		}
	}
}

// P3.1 and P3.2: which names and langs may be.
func TestWords(t *testing.T) {
	words := map[string]bool{"": true, "a": true, ",": true, "!~": true, rep(64): true, rep(65): false, rep(32768): false,
		"a b": false, " ": false, "a\n": false, "\x7f": false, "\x80": false, "\xff": false, "\x00": false, "\xc3\xa9": false, "a\x1f": false}
	for c := range 256 {
		words["x"+string([]byte{byte(c)})] = c >= 33 && c <= 126
	}
	for w, may := range words {
		for _, x := range []struct {
			m     api.Msg
			b     string
			empty bool
		}{
			{api.Msg{Kind: 80, Name: w}, "\x50" + str(w) + "\x00", false},
			{api.Msg{Kind: 90, Name: w}, "\x5a" + str(w) + u(0) + u(0) + u(0), false},
			{api.Msg{Kind: 98, Name: w}, "\x62" + u(0) + str(w) + "\x00", false},
			{api.Msg{Kind: 1, Lang: w}, "\x01" + u(0) + str("") + str(w), true},
			{api.Msg{Kind: 92, Lang: w}, "\x5c" + u(0) + u(0) + str("") + str(w), true},
		} {
			want := api.OK
			if !may || w == "" && !x.empty {
				want = api.ErrForm
			}
			b, e := message.Encode(x.m)
			if e != want || e != api.OK && b != nil {
				t.Errorf("kind %d, %.10q: encoded as %x, error %d", x.m.Kind, w, b, e)
			}
			m, e := message.Decode([]byte(x.b))
			if e != want || e != api.OK && !bare(m) {
				t.Errorf("kind %d, %.10q: decoded as %v, error %d", x.m.Kind, w, m, e)
			}
		}
	}
}

// P3.2: what may not be decoded, and which of several errors is told.
func TestDecodeWrong(t *testing.T) {
	for _, x := range []struct {
		what string
		b    string
		e    api.Errno
	}{
		{"nothing", "", api.ErrShort},
		{"the document's 03", "\x03", api.ErrNone},
		{"the document's 5e 00", "\x5e\x00", api.ErrShort},
		{"a failure with a byte behind", "\x52x", api.ErrForm},
		{"a close with a byte behind", "\x61" + u(7) + "x", api.ErrForm},
		{"data with a byte behind", "\x5e" + u(7) + str("hi") + "x", api.ErrForm},
		{"data that tells too much", "\x5e" + u(7) + u(32769), api.ErrFull},
		{"a name that tells too much", "\x5a" + u(32769), api.ErrFull},
		{"a rest too long", "\x51" + rep(33793), api.ErrFull},
		{"a bad name, and then too little", "\x5a" + str(" "), api.ErrShort},
		{"a bad name, and then too much", "\x62" + u(1) + str(" ") + "\x00" + rep(33793), api.ErrFull},
		{"a bad name that ends too soon", "\x50" + u(2) + " ", api.ErrShort},
		{"an empty name without its bool", "\x50" + u(0), api.ErrShort},
		{"a bad lang, and a byte behind", "\x01" + u(0) + u(0) + str(" ") + "x", api.ErrForm},
		{"a bad lang behind bytes too many", "\x5c" + u(0) + u(0) + u(40000) + str(" "), api.ErrFull},
	} {
		if m, e := message.Decode([]byte(x.b)); e != x.e || !bare(m) {
			t.Errorf("%s: %v, error %d", x.what, m, e)
		}
	}
}

// P3.2: a payload that is cut ahead of its rest, or anywhere if its kind has none, is too short.
func TestDecodeCut(t *testing.T) {
	for _, x := range pairs() {
		least := len(x.b)
		if hasRest(x.m.Kind) {
			least -= len(x.m.Data)
		}
		for n := range least {
			if m, e := message.Decode([]byte(x.b[:n])); e != api.ErrShort || !bare(m) {
				t.Fatalf("%s, cut to %d: %v, error %d", x.what, n, m, e)
			}
		}
	}
}

// P3.2 and P3.3: any byte but 0 is true, and goes back as 1.
func TestBools(t *testing.T) {
	for c := range 256 {
		for _, ahead := range []string{"\x50" + str("a"), "\x62" + u(3) + str("a")} {
			m, e := message.Decode([]byte(ahead + string([]byte{byte(c)}) + "z"))
			b, e2 := message.Encode(m)
			if m.Want != (c != 0) || e != api.OK || e2 != api.OK || string(b) != ahead+string([]byte{byte(min(c, 1))})+"z" {
				t.Errorf("%x and %d: %v, back %x, errors %d and %d", ahead, c, m, b, e, e2)
			}
		}
	}
}

// rows makes numbers, each from the one ahead of it, so that a test is the same each time.
type rows struct{ at uint64 }

func (r *rows) below(n int) int {
	r.at = r.at*6364136223846793005 + 1442695040888963407
	return int(r.at>>33) % n
}

func (r *rows) text(most int, any bool) string {
	b := make([]byte, r.below(most+1))
	for i := range b {
		b[i] = byte(33 + r.below(94))
		if any {
			b[i] = byte(r.below(256))
		}
	}
	return string(b)
}

func (r *rows) number() uint32 { return uint32(r.below(1<<30))<<2 ^ uint32(r.below(256)) }

// message is one that is right.
func (r *rows) message() api.Msg {
	return api.Msg{Kind: all[r.below(len(all))], Chan: r.number(), Sender: r.number(), Window: r.number(), Packet: r.number(), Code: r.number(),
		Name: "n" + r.text(63, false), Lang: r.text(64, false), Want: r.below(2) == 1, Data: []byte(r.text(50, true))}
}

// P3.3: what is encoded is decoded; what is decoded is encoded as it came, but for Bools.
func TestThereAndBack(t *testing.T) {
	var r rows
	for range 5000 {
		m := r.message()
		b, e := message.Encode(m)
		if e != api.OK {
			t.Fatalf("%v: error %d", m, e)
		}
		got, e := message.Decode(b)
		again, e2 := message.Encode(got)
		if e != api.OK || e2 != api.OK || !bytes.Equal(again, b) || got.Kind != m.Kind {
			t.Fatalf("%v came back as %v, errors %d and %d", m, got, e, e2)
		}
	}
	decoded := 0
	for range 20000 {
		b, _ := message.Encode(r.message())
		for i := range b {
			if r.below(20) == 0 {
				b[i] = byte(r.below(256))
			}
		}
		m, e := message.Decode(b)
		if e != api.OK {
			if !bare(m) {
				t.Fatalf("%x: %v beside the error %d", b, m, e)
			}
			continue
		}
		decoded++
		again, e := message.Encode(m)
		if e != api.OK || len(again) != len(b) {
			t.Fatalf("%x came back as %x, error %d", b, again, e)
		}
		for i := range b {
			truth := m.Kind == api.GlobalRequest && i == 5+len(m.Name) || m.Kind == api.ChanRequest && i == 9+len(m.Name)
			if again[i] != b[i] && !(truth && m.Want && again[i] == 1) {
				t.Fatalf("%x came back as %x", b, again)
			}
		}
	}
	if decoded < 2000 {
		t.Errorf("only %d were decoded", decoded)
	}
}

// P3.1 and P3.2: an answer shares nothing, and what is handed in isn't changed, its spare room included.
func TestNothingIsShared(t *testing.T) {
	for _, kind := range all {
		room := []byte("dataroom")
		m := full(kind)
		m.Data = room[:4]
		b, e := message.Encode(m)
		if e != api.OK {
			t.Fatal(kind, e)
		}
		whole := string(b)
		clear(b[:cap(b)])
		if string(room) != "dataroom" || !same(m, full(kind)) {
			t.Errorf("kind %d: Encode shares", kind)
		}

		packet := []byte(whole + "behind")
		got, e := message.Decode(packet[:len(whole)])
		if e != api.OK {
			t.Fatal(kind, e)
		}
		had := string(got.Data)
		clear(packet)
		if string(got.Data) != had || hasName(kind) && got.Name != "name" || hasLang(kind) && got.Lang != "lang" {
			t.Errorf("kind %d: Decode kept what was handed in", kind)
		}
		copy(packet, whole+"behind")
		clear(got.Data[:cap(got.Data)])
		if string(packet) != whole+"behind" {
			t.Errorf("kind %d: Decode's answer shares", kind)
		}
	}
}

// P1: whatever the bytes, a call answers.
func TestAnyArguments(t *testing.T) {
	var r rows
	for range 30000 {
		b := []byte(r.text(40, true))
		if len(b) > 0 && r.below(4) > 0 {
			b[0] = byte(all[r.below(len(all))])
		}
		if m, e := message.Decode(b); e != api.OK && !bare(m) {
			t.Fatalf("%x: %v beside the error %d", b, m, e)
		}
		m := r.message()
		m.Kind, m.Name, m.Lang = r.below(300)-100, r.text(70, r.below(4) == 0), r.text(70, r.below(4) == 0)
		if b, e := message.Encode(m); e != api.OK && b != nil {
			t.Fatalf("%v: bytes beside the error %d", m, e)
		}
	}
	if m, e := message.Decode(nil); e != api.ErrShort || !bare(m) {
		t.Error("Decode of nil")
	}
}
