package request_test

import (
	"bytes"
	"math"
	"strings"
	"testing"

	"parlour/api"
	"parlour/request"
)

// rep is a text of so many bytes.
func rep(n int) string { return strings.Repeat("x", n) }

// u is a number as it stands in a request.
func u(n uint32) string { return string([]byte{byte(n >> 24), byte(n >> 16), byte(n >> 8), byte(n)}) }

// str is a text with its length ahead.
func str(s string) string { return u(uint32(len(s))) + s }

// any256 is a text of every byte.
func any256() string {
	b := make([]byte, 256)
	for i := range b {
		b[i] = byte(i)
	}
	return string(b)
}

func same(a, b api.Req) bool {
	return a.Kind == b.Kind && a.Text == b.Text && a.Value == b.Value && a.Lang == b.Lang && a.Size == b.Size &&
		bytes.Equal(a.Modes, b.Modes) && a.On == b.On && a.Code == b.Code
}

// bare says whether a request is the zero one.
func bare(r api.Req) bool { return same(r, api.Req{}) }

func names() map[int]string {
	return map[int]string{
		api.PtyReq: "pty-req", api.Env: "env", api.Shell: "shell", api.Exec: "exec", api.Subsystem: "subsystem", api.WindowChange: "window-change",
		api.XonXoff: "xon-xoff", api.Signal: "signal", api.ExitStatus: "exit-status", api.ExitSignal: "exit-signal",
	}
}

// size is a terminal's all of whose numbers differ, and sized is its bytes.
var size = api.Size{Cols: 0x01020304, Rows: 0x11121314, Width: 0x21222324, Height: 0xfffffffe}

const sized = "\x01\x02\x03\x04\x11\x12\x13\x14\x21\x22\x23\x24\xff\xff\xff\xfe"

// full is a request all of whose fields say something.
func full(kind int) api.Req {
	return api.Req{Kind: kind, Text: "text", Value: "value", Lang: "lang", Size: size, Modes: []byte("modes"), On: true, Code: 0x41424344}
}

type pair struct {
	what string
	r    api.Req
	b    string
}

// pairs are requests with no field but their kinds' own, and what stands behind their names.
func pairs() []pair {
	return []pair{
		{"a terminal", api.Req{Kind: api.PtyReq, Text: "vt100", Size: size, Modes: []byte("\x01\x00")}, str("vt100") + sized + str("\x01\x00")},
		{"an empty terminal", api.Req{Kind: api.PtyReq}, u(0) + u(0) + u(0) + u(0) + u(0) + u(0)},
		{"the longest terminal", api.Req{Kind: api.PtyReq, Text: rep(64), Size: size, Modes: make([]byte, 1024)}, str(rep(64)) + sized + str(strings.Repeat("\x00", 1024))},
		{"a terminal of any modes", api.Req{Kind: api.PtyReq, Text: "!=~", Modes: []byte(any256())}, str("!=~") + strings.Repeat("\x00", 16) + str(any256())},
		{"a variable", api.Req{Kind: api.Env, Text: "LANG", Value: "a b=c"}, str("LANG") + str("a b=c")},
		{"the shortest variable", api.Req{Kind: api.Env, Text: "A"}, str("A") + u(0)},
		{"the longest variable", api.Req{Kind: api.Env, Text: rep(64), Value: rep(1024)}, str(rep(64)) + str(rep(1024))},
		{"a variable of any value", api.Req{Kind: api.Env, Text: "~!,", Value: any256()}, str("~!,") + str(any256())},
		{"a shell", api.Req{Kind: api.Shell}, ""},
		{"the document's command", api.Req{Kind: api.Exec, Text: "ls"}, "\x00\x00\x00\x02\x6c\x73"},
		{"an empty command", api.Req{Kind: api.Exec}, u(0)},
		{"the longest command", api.Req{Kind: api.Exec, Text: rep(1024)}, str(rep(1024))},
		{"a command of any bytes", api.Req{Kind: api.Exec, Text: any256()}, str(any256())},
		{"a subsystem", api.Req{Kind: api.Subsystem, Text: "sftp"}, str("sftp")},
		{"the longest subsystem", api.Req{Kind: api.Subsystem, Text: rep(64)}, str(rep(64))},
		{"another size", api.Req{Kind: api.WindowChange, Size: size}, sized},
		{"the least size", api.Req{Kind: api.WindowChange}, strings.Repeat("\x00", 16)},
		{"flow control", api.Req{Kind: api.XonXoff, On: true}, "\x01"},
		{"no flow control", api.Req{Kind: api.XonXoff}, "\x00"},
		{"a signal", api.Req{Kind: api.Signal, Text: "INT"}, str("INT")},
		{"the longest signal", api.Req{Kind: api.Signal, Text: rep(64)}, str(rep(64))},
		{"the document's status", api.Req{Kind: api.ExitStatus, Code: 7}, "\x00\x00\x00\x07"},
		{"the greatest status", api.Req{Kind: api.ExitStatus, Code: math.MaxUint32}, "\xff\xff\xff\xff"},
		{"an end by a signal", api.Req{Kind: api.ExitSignal, Text: "SEGV", On: true, Value: "so so", Lang: "en"}, str("SEGV") + "\x01" + str("so so") + str("en")},
		{"the shortest end", api.Req{Kind: api.ExitSignal, Text: "A"}, str("A") + "\x00" + u(0) + u(0)},
		{"the longest end", api.Req{Kind: api.ExitSignal, Text: rep(64), Value: rep(1024), Lang: rep(64)}, str(rep(64)) + "\x00" + str(rep(1024)) + str(rep(64))},
		{"an end of any words", api.Req{Kind: api.ExitSignal, Text: "K=", Value: any256(), Lang: "="}, str("K=") + "\x00" + str(any256()) + str("=")},
	}
}

// P4.1: the names, and no others.
func TestName(t *testing.T) {
	for kind, want := range names() {
		if name, ok := request.Name(kind); name != want || !ok {
			t.Errorf("kind %d: %q, %v", kind, name, ok)
		}
	}
	for _, kind := range []int{math.MinInt, -1 << 32, -1, 0, 11, 12, 256, 1<<32 + 1, math.MaxInt} {
		if name, ok := request.Name(kind); name != "" || ok {
			t.Errorf("kind %d: %q, %v", kind, name, ok)
		}
	}
}

// P4.1 to P4.3: each kind's fields, there and back.
func TestRequests(t *testing.T) {
	for _, x := range pairs() {
		name, b, e := request.Encode(x.r)
		if name != names()[x.r.Kind] || string(b) != x.b || e != api.OK {
			t.Errorf("%s: encoded as %q, %.60x, error %d", x.what, name, b, e)
		}
		r, e := request.Decode(names()[x.r.Kind], []byte(x.b))
		if !same(r, x.r) || e != api.OK {
			t.Errorf("%s: decoded as %.200v, error %d", x.what, r, e)
		}
	}
}

// P4.1 to P4.3: of a request all of whose fields say something, a kind takes its own alone, in order.
func TestRows(t *testing.T) {
	for kind, want := range map[int]string{
		api.PtyReq: str("text") + sized + str("modes"), api.Env: str("text") + str("value"), api.Shell: "", api.Exec: str("text"),
		api.Subsystem: str("text"), api.WindowChange: sized, api.XonXoff: "\x01", api.Signal: str("text"), api.ExitStatus: "\x41\x42\x43\x44",
		api.ExitSignal: str("text") + "\x01" + str("value") + str("lang"),
	} {
		name, b, e := request.Encode(full(kind))
		if name != names()[kind] || string(b) != want || e != api.OK {
			t.Errorf("kind %d: %q, %x, error %d", kind, name, b, e)
		}
		r, e := request.Decode(name, b)
		if !same(r, own(full(kind))) || e != api.OK {
			t.Errorf("kind %d: %v, error %d", kind, r, e)
		}
	}
}

func hasWord(kind int) bool {
	return kind == api.PtyReq || kind == api.Env || kind == api.Subsystem || kind == api.Signal || kind == api.ExitSignal
}
func hasText(kind int) bool  { return hasWord(kind) || kind == api.Exec }
func hasValue(kind int) bool { return kind == api.Env || kind == api.ExitSignal }
func hasSize(kind int) bool  { return kind == api.PtyReq || kind == api.WindowChange }
func hasOn(kind int) bool    { return kind == api.XonXoff || kind == api.ExitSignal }

// own is what of a request its kind has.
func own(r api.Req) api.Req {
	o := api.Req{Kind: r.Kind}
	if hasText(r.Kind) {
		o.Text = r.Text
	}
	if hasValue(r.Kind) {
		o.Value = r.Value
	}
	if r.Kind == api.ExitSignal {
		o.Lang = r.Lang
	}
	if hasSize(r.Kind) {
		o.Size = r.Size
	}
	if r.Kind == api.PtyReq {
		o.Modes = r.Modes
	}
	if hasOn(r.Kind) {
		o.On = r.On
	}
	if r.Kind == api.ExitStatus {
		o.Code = r.Code
	}
	return o
}

// P4.1: what may not be in a field that the kind hasn't is no error.
func TestFieldsOfOtherKinds(t *testing.T) {
	for _, x := range pairs() {
		r := x.r
		if !hasText(r.Kind) {
			r.Text = strings.Repeat(" =", 20000)
		}
		if !hasValue(r.Kind) {
			r.Value = rep(40000)
		}
		if r.Kind != api.ExitSignal {
			r.Lang = strings.Repeat("\x00", 40000)
		}
		if r.Kind != api.PtyReq {
			r.Modes = make([]byte, 40000)
		}
		if name, b, e := request.Encode(r); name != names()[r.Kind] || string(b) != x.b || e != api.OK {
			t.Errorf("%s: %q, %.40x, error %d", x.what, name, b, e)
		}
	}
}

// P4.1: kinds that there aren't.
func TestKinds(t *testing.T) {
	for _, kind := range []int{math.MinInt, -11, -10, -1, 0, 11, 255, 256 + api.Exec, 1<<32 + api.Exec, math.MaxInt} {
		if name, b, e := request.Encode(full(kind)); name != "" || b != nil || e != api.ErrNone {
			t.Errorf("kind %d: %q, %x, error %d", kind, name, b, e)
		}
	}
}

// P4.2: names that no kind has, whatever stands behind them.
func TestNames(t *testing.T) {
	others := []string{"", " ", "x11-req", "pty", "pty-req ", " pty-req", "PTY-REQ", "Env", "env\x00", "exec@parlour", "exit", "exit-statu", "exit-status-", "shel", "shells", "signal,shell", "window_change", rep(40000)}
	for _, name := range names() {
		others = append(others, name[1:], name[:len(name)-1], name+name, strings.ToUpper(name))
	}
	for _, name := range others {
		for _, b := range []string{"", "x", str("ls"), "\x01", sized, rep(40000)} {
			if r, e := request.Decode(name, []byte(b)); e != api.ErrNone || !bare(r) {
				t.Errorf("%.20q, %d bytes: %v, error %d", name, len(b), r, e)
			}
		}
	}
}

// P4.1 and P4.2: which words may be, in each place that has one.
func TestWords(t *testing.T) {
	words := map[string]bool{"": true, "a": true, ",": true, "!~": true, rep(64): true, rep(65): false, rep(1024): false, rep(1025): false, rep(32768): false,
		"a b": false, " ": false, "a\n": false, "\x7f": false, "\x80": false, "\xff": false, "\x00": false, "\xc3\xa9": false, rep(63) + " ": false,
		"=": true, "a=": true, "=a": true, "a=b": true, rep(63) + "=": true}
	for c := range 256 {
		words["x"+string([]byte{byte(c)})] = c >= 33 && c <= 126
		words[string([]byte{byte(c)})+"x"] = c >= 33 && c <= 126
	}
	for w, may := range words {
		for _, x := range []struct {
			r            api.Req
			b            string
			empty, equal bool
		}{
			{api.Req{Kind: api.PtyReq, Text: w}, str(w) + u(0) + u(0) + u(0) + u(0) + u(0), true, true},
			{api.Req{Kind: api.Env, Text: w}, str(w) + u(0), false, false},
			{api.Req{Kind: api.Subsystem, Text: w}, str(w), false, true},
			{api.Req{Kind: api.Signal, Text: w}, str(w), false, true},
			{api.Req{Kind: api.ExitSignal, Text: w}, str(w) + "\x00" + u(0) + u(0), false, true},
			{api.Req{Kind: api.ExitSignal, Text: "K", Lang: w}, str("K") + "\x00" + u(0) + str(w), true, true},
		} {
			want := api.OK
			if !may || w == "" && !x.empty || strings.Contains(w, "=") && !x.equal {
				want = api.ErrForm
			}
			name, b, e := request.Encode(x.r)
			if e != want || e != api.OK && (name != "" || b != nil) || e == api.OK && string(b) != x.b {
				t.Errorf("kind %d, %.10q: encoded as %q, %x, error %d", x.r.Kind, w, name, b, e)
			}
			r, e := request.Decode(names()[x.r.Kind], []byte(x.b))
			if e != want || e != api.OK && !bare(r) || e == api.OK && !same(r, x.r) {
				t.Errorf("kind %d, %.10q: decoded as %v, error %d", x.r.Kind, w, r, e)
			}
		}
	}
}

// P4.1 and P4.2: how long a text may be, and which of several errors is told.
func TestLong(t *testing.T) {
	long := rep(1025)
	for _, x := range []struct {
		what string
		r    api.Req
		b    string
		e    api.Errno
	}{
		{"a command", api.Req{Kind: api.Exec, Text: long}, str(long), api.ErrFull},
		{"the longest text of a command", api.Req{Kind: api.Exec, Text: rep(32768)}, str(rep(32768)), api.ErrFull},
		{"a value", api.Req{Kind: api.Env, Text: "A", Value: long}, str("A") + str(long), api.ErrFull},
		{"an end's words", api.Req{Kind: api.ExitSignal, Text: "A", Value: long}, str("A") + "\x00" + str(long) + u(0), api.ErrFull},
		{"modes", api.Req{Kind: api.PtyReq, Size: size, Modes: []byte(long)}, u(0) + sized + str(long), api.ErrFull},
		{"modes and a bad word", api.Req{Kind: api.PtyReq, Text: " ", Size: size, Modes: []byte(long)}, str(" ") + sized + str(long), api.ErrForm},
		{"a value and a bad word", api.Req{Kind: api.Env, Text: " ", Value: long}, str(" ") + str(long), api.ErrForm},
		{"a value and an =", api.Req{Kind: api.Env, Text: "a=b", Value: long}, str("a=b") + str(long), api.ErrForm},
		{"a value and no word", api.Req{Kind: api.Env, Value: long}, u(0) + str(long), api.ErrForm},
		{"an end's words and a bad word", api.Req{Kind: api.ExitSignal, Value: long}, u(0) + "\x00" + str(long) + u(0), api.ErrForm},
		{"an end's words and a bad lang behind", api.Req{Kind: api.ExitSignal, Text: "A", Value: long, Lang: " "}, str("A") + "\x00" + str(long) + str(" "), api.ErrForm},
	} {
		if name, b, e := request.Encode(x.r); e != x.e || name != "" || b != nil {
			t.Errorf("%s: encoded as %q, %d bytes, error %d", x.what, name, len(b), e)
		}
		if r, e := request.Decode(names()[x.r.Kind], []byte(x.b)); e != x.e || !bare(r) {
			t.Errorf("%s: decoded as %.60v, error %d", x.what, r, e)
		}
	}
}

// P4.1: texts longer than a packet's string may be are told as others that are too long.
func TestEncodeVeryLong(t *testing.T) {
	much := rep(40000)
	for _, x := range []struct {
		r api.Req
		e api.Errno
	}{
		{api.Req{Kind: api.Exec, Text: much}, api.ErrFull},
		{api.Req{Kind: api.Env, Text: "A", Value: much}, api.ErrFull},
		{api.Req{Kind: api.PtyReq, Modes: make([]byte, 40000)}, api.ErrFull},
		{api.Req{Kind: api.PtyReq, Text: much, Modes: make([]byte, 40000)}, api.ErrForm},
		{api.Req{Kind: api.ExitSignal, Text: "A", Value: much, Lang: much}, api.ErrForm},
		{api.Req{Kind: api.Signal, Text: much}, api.ErrForm},
	} {
		if name, b, e := request.Encode(x.r); e != x.e || name != "" || b != nil {
			t.Errorf("kind %d: %q, %d bytes, error %d", x.r.Kind, name, len(b), e)
		}
	}
}

// P4.2: what may not be decoded, and which of several errors is told.
func TestDecodeWrong(t *testing.T) {
	for _, x := range []struct {
		what, name, b string
		e             api.Errno
	}{
		{"the document's shell and 00", "shell", "\x00", api.ErrForm},
		{"a command with a byte behind", "exec", str("ls") + "x", api.ErrForm},
		{"a size with a byte behind", "window-change", sized + "x", api.ErrForm},
		{"a truth with a byte behind", "xon-xoff", "\x00\x00", api.ErrForm},
		{"a status with a byte behind", "exit-status", u(7) + "\x00", api.ErrForm},
		{"a terminal with a byte behind", "pty-req", u(0) + sized + u(0) + "x", api.ErrForm},
		{"a command that tells too much", "exec", u(32769), api.ErrFull},
		{"a signal that tells too much", "signal", u(32769), api.ErrFull},
		{"modes that tell too much", "pty-req", str(" ") + sized + u(math.MaxUint32), api.ErrFull},
		{"a bad word that ends too soon", "signal", u(2) + " ", api.ErrShort},
		{"a bad word, and then too little", "env", str("a=b") + u(1), api.ErrShort},
		{"a bad word, and then too much", "env", str("a=b") + u(40000), api.ErrFull},
		{"a long text, and then too little", "exit-signal", str("A") + "\x00" + str(rep(1025)) + u(1), api.ErrShort},
		{"a long text, and a byte behind", "exec", str(rep(1025)) + "x", api.ErrForm},
		{"a bad word, and a byte behind", "subsystem", str(" ") + "x", api.ErrForm},
	} {
		if r, e := request.Decode(x.name, []byte(x.b)); e != x.e || !bare(r) {
			t.Errorf("%s: %v, error %d", x.what, r, e)
		}
	}
}

// P4.2: what is cut anywhere is too short, and what has a byte behind may not be.
func TestDecodeCut(t *testing.T) {
	for _, x := range pairs() {
		name := names()[x.r.Kind]
		for n := range len(x.b) {
			if r, e := request.Decode(name, []byte(x.b[:n])); e != api.ErrShort || !bare(r) {
				t.Fatalf("%s, cut to %d: %v, error %d", x.what, n, r, e)
			}
		}
		if r, e := request.Decode(name, []byte(x.b+"\x00")); e != api.ErrForm || !bare(r) {
			t.Errorf("%s, a byte behind: %v, error %d", x.what, r, e)
		}
	}
}

// P4.2 and P4.3: any byte but 0 is true, and goes back as 1.
func TestBools(t *testing.T) {
	for c := range 256 {
		for _, x := range []struct{ name, ahead, behind string }{{"xon-xoff", "", ""}, {"exit-signal", str("A"), u(0) + str("en")}} {
			r, e := request.Decode(x.name, []byte(x.ahead+string([]byte{byte(c)})+x.behind))
			name, b, e2 := request.Encode(r)
			if r.On != (c != 0) || e != api.OK || e2 != api.OK || name != x.name || string(b) != x.ahead+string([]byte{byte(min(c, 1))})+x.behind {
				t.Errorf("%s, %d: %v, back %x, errors %d and %d", x.name, c, r, b, e, e2)
			}
		}
	}
}

// rows makes numbers, each from the one ahead of it, so that a test is the same each time.
type rows struct{ at uint64 }

func (r *rows) below(n int) int {
	r.at = r.at*6364136223846793005 + 1442695040888963407
	return int(r.at>>33) % n
}

func (r *rows) text(most int, any bool) string {
	b := make([]byte, r.below(most+1))
	for i := range b {
		b[i] = byte(33 + r.below(94))
		if any {
			b[i] = byte(r.below(256))
		}
	}
	return string(b)
}

func (r *rows) number() uint32 { return uint32(r.below(1<<30))<<2 ^ uint32(r.below(256)) }

// request is one that is right.
func (r *rows) request() api.Req {
	return api.Req{Kind: 1 + r.below(10), Text: "n" + strings.ReplaceAll(r.text(63, false), "=", "-"), Value: r.text(50, true), Lang: r.text(64, false),
		Size: api.Size{Cols: r.number(), Rows: r.number(), Width: r.number(), Height: r.number()}, Modes: []byte(r.text(50, true)), On: r.below(2) == 1, Code: r.number()}
}

// P4.3: what is encoded is decoded; what is decoded is encoded as it came, but for Bools.
func TestThereAndBack(t *testing.T) {
	var r rows
	for range 5000 {
		q := r.request()
		name, b, e := request.Encode(q)
		if e != api.OK {
			t.Fatalf("%v: error %d", q, e)
		}
		if got, e := request.Decode(name, b); e != api.OK || !same(got, own(q)) {
			t.Fatalf("%v came back as %v, error %d", q, got, e)
		}
	}
	decoded := 0
	for range 20000 {
		name, b, _ := request.Encode(r.request())
		for i := range b {
			if r.below(20) == 0 {
				b[i] = byte(r.below(256))
			}
		}
		q, e := request.Decode(name, b)
		if e != api.OK {
			if !bare(q) {
				t.Fatalf("%x: %v beside the error %d", b, q, e)
			}
			continue
		}
		decoded++
		again, back, e := request.Encode(q)
		if e != api.OK || again != name || len(back) != len(b) {
			t.Fatalf("%s, %x came back as %s, %x, error %d", name, b, again, back, e)
		}
		for i := range b {
			truth := q.Kind == api.XonXoff || q.Kind == api.ExitSignal && i == 4+len(q.Text)
			if back[i] != b[i] && !(truth && q.On && back[i] == 1) {
				t.Fatalf("%s, %x came back as %x", name, b, back)
			}
		}
	}
	if decoded < 2000 {
		t.Errorf("only %d were decoded", decoded)
	}
}

// P4.1 and P4.2: an answer shares nothing, and what is handed in isn't changed, its spare room included.
func TestNothingIsShared(t *testing.T) {
	for kind := range names() {
		room := []byte("modesroom")
		r := full(kind)
		r.Modes = room[:5]
		name, b, e := request.Encode(r)
		if e != api.OK {
			t.Fatal(kind, e)
		}
		whole := string(b)
		clear(b[:cap(b)])
		if string(room) != "modesroom" || !same(r, full(kind)) {
			t.Errorf("kind %d: Encode shares", kind)
		}

		data := []byte(whole + "behind")
		got, e := request.Decode(name, data[:len(whole)])
		if e != api.OK || string(data) != whole+"behind" {
			t.Fatal(kind, e)
		}
		clear(data)
		if !same(got, own(full(kind))) {
			t.Errorf("kind %d: Decode kept what was handed in", kind)
		}
		copy(data, whole+"behind")
		clear(got.Modes[:cap(got.Modes)])
		if string(data) != whole+"behind" {
			t.Errorf("kind %d: Decode's answer shares", kind)
		}
	}
}

// P1: whatever the arguments, a call answers.
func TestAnyArguments(t *testing.T) {
	var r rows
	for range 30000 {
		name := r.text(12, true)
		if r.below(8) > 0 {
			name = names()[1+r.below(10)]
		}
		b := []byte(r.text(60, true))
		for i := range b {
			if r.below(3) > 0 {
				b[i] = 0
			}
		}
		if q, e := request.Decode(name, b); e != api.OK && !bare(q) {
			t.Fatalf("%s, %x: %v beside the error %d", name, b, q, e)
		}
		q := r.request()
		q.Kind, q.Text, q.Lang, q.Value = r.below(14)-2, r.text(70, r.below(4) == 0), r.text(70, r.below(4) == 0), r.text(1100, true)
		if name, b, e := request.Encode(q); e != api.OK && (name != "" || b != nil) {
			t.Fatalf("%v: an answer beside the error %d", q, e)
		}
	}
	for _, name := range names() {
		if r, e := request.Decode(name, nil); name != "shell" && (e != api.ErrShort || !bare(r)) || name == "shell" && e != api.OK {
			t.Errorf("%s of nil: %v, error %d", name, r, e)
		}
	}
}
