package octet_test

import (
	"bytes"
	"math"
	"slices"
	"strings"
	"testing"

	"parlour/api"
	"parlour/octet"
)

func short(n uint32) api.Field          { return api.Field{Kind: api.Byte, N: n} }
func truth(n uint32) api.Field          { return api.Field{Kind: api.Bool, N: n} }
func number(n uint32) api.Field         { return api.Field{Kind: api.Uint32, N: n} }
func text(s string) api.Field           { return api.Field{Kind: api.String, Text: []byte(s)} }
func names(l ...string) api.Field       { return api.Field{Kind: api.Names, List: l} }
func rest(s string) api.Field           { return api.Field{Kind: api.Rest, Text: []byte(s)} }
func fields(l ...api.Field) []api.Field { return l }

// rep is a text of so many bytes.
func rep(n int) string { return strings.Repeat("x", n) }

// many is so many names of so many bytes.
func many(n, size int) []string { return slices.Repeat([]string{rep(size)}, n) }

// head is a length as it stands ahead of a text.
func head(n int) string { return string([]byte{byte(n >> 24), byte(n >> 16), byte(n >> 8), byte(n)}) }

func same(a, b api.Field) bool {
	return a.Kind == b.Kind && a.N == b.N && bytes.Equal(a.Text, b.Text) && slices.Equal(a.List, b.List)
}

type writeCase struct {
	what string
	l    []api.Field
	want string
	e    api.Errno
}

func checkWrite(t *testing.T, cases []writeCase) {
	t.Helper()
	for _, x := range cases {
		b, e := octet.Write(x.l)
		if string(b) != x.want || e != x.e {
			t.Errorf("%s: %d bytes, error %d; want %d bytes, error %d", x.what, len(b), e, len(x.want), x.e)
		}
	}
}

// P1.1: each kind's bytes, with the least and the most that it may have.
func TestWriteBytes(t *testing.T) {
	checkWrite(t, []writeCase{
		{"nothing", nil, "", api.OK},
		{"the document's first example", fields(truth(1), number(258), text("ab")), "\x01\x00\x00\x01\x02\x00\x00\x00\x02ab", api.OK},
		{"the document's second example", fields(names("a", "b")), "\x00\x00\x00\x03a,b", api.OK},
		{"bytes", fields(short(0), short(7), short(255)), "\x00\x07\xff", api.OK},
		{"bools", fields(truth(0), truth(1)), "\x00\x01", api.OK},
		{"numbers", fields(number(0), number(0x01020304), number(math.MaxUint32)), "\x00\x00\x00\x00\x01\x02\x03\x04\xff\xff\xff\xff", api.OK},
		{"an empty text", fields(text("")), "\x00\x00\x00\x00", api.OK},
		{"a text of any bytes", fields(text("\x00,\xff")), "\x00\x00\x00\x03\x00,\xff", api.OK},
		{"the longest text", fields(text(rep(32768))), "\x00\x00\x80\x00" + rep(32768), api.OK},
		{"no names", fields(names()), "\x00\x00\x00\x00", api.OK},
		{"one name", fields(names("zlib@x")), "\x00\x00\x00\x06zlib@x", api.OK},
		{"the first and last bytes of names", fields(names("!+-~")), "\x00\x00\x00\x04!+-~", api.OK},
		{"the most and longest names", fields(names(many(64, 64)...)), head(4159) + strings.Join(many(64, 64), ","), api.OK},
		{"an empty rest", fields(rest("")), "", api.OK},
		{"a rest", fields(short(1), rest("\x00xy")), "\x01\x00xy", api.OK},
		{"the longest rest", fields(rest(rep(33792))), rep(33792), api.OK},
		{"a full packet", fields(text(rep(32768)), text(rep(1016))), "\x00\x00\x80\x00" + rep(32768) + "\x00\x00\x03\xf8" + rep(1016), api.OK},
		{"a full packet and an empty rest", fields(text(rep(32768)), text(rep(1016)), rest("")), "\x00\x00\x80\x00" + rep(32768) + "\x00\x00\x03\xf8" + rep(1016), api.OK},
	})
}

// P1.1: what may not be.
func TestWriteWrong(t *testing.T) {
	checkWrite(t, []writeCase{
		{"kind 0", fields(api.Field{}), "", api.ErrArg},
		{"kind 7", fields(api.Field{Kind: 7}), "", api.ErrArg},
		{"a kind below 0", fields(api.Field{Kind: -1}), "", api.ErrArg},
		{"the least kind", fields(api.Field{Kind: math.MinInt}), "", api.ErrArg},
		{"the greatest kind", fields(api.Field{Kind: math.MaxInt}), "", api.ErrArg},
		{"a rest that isn't the last", fields(rest(""), short(0)), "", api.ErrArg},
		{"two rests", fields(rest("a"), rest("b")), "", api.ErrArg},
		{"a byte too great", fields(short(256)), "", api.ErrRange},
		{"the greatest byte", fields(short(math.MaxUint32)), "", api.ErrRange},
		{"a bool too great", fields(truth(2)), "", api.ErrRange},
		{"a bool of 256", fields(truth(256)), "", api.ErrRange},
		{"a text too long", fields(text(rep(32769))), "", api.ErrFull},
		{"a rest too long", fields(rest(rep(33793))), "", api.ErrFull},
		{"names too many", fields(names(many(65, 1)...)), "", api.ErrFull},
		{"an empty name", fields(names("a", "")), "", api.ErrForm},
		{"a name too long", fields(names(rep(65))), "", api.ErrForm},
		{"a name with a comma", fields(names("a,b")), "", api.ErrForm},
		{"a name with a blank", fields(names("a b")), "", api.ErrForm},
		{"a name with a byte 127", fields(names("a\x7f")), "", api.ErrForm},
		{"a name with a byte 0", fields(names("\x00")), "", api.ErrForm},
		{"a name that isn't ASCII", fields(names("a", "\xc3\xa9")), "", api.ErrForm},
		{"a byte more than a packet", fields(text(rep(32768)), text(rep(1017))), "", api.ErrFull},
		{"a rest that makes it too much", fields(short(1), rest(rep(33792))), "", api.ErrFull},
		{"too many small fields", slices.Repeat(fields(short(1)), 33793), "", api.ErrFull},
	})
}

// P1.1: which of several errors is told.
func TestWriteErrorsInOrder(t *testing.T) {
	over := text(rep(32768))
	checkWrite(t, []writeCase{
		{"a kind behind a byte too great", fields(short(256), api.Field{Kind: 9}), "", api.ErrArg},
		{"a place behind a bad name", fields(names(""), rest(""), short(0)), "", api.ErrArg},
		{"a kind behind too much", fields(over, over, api.Field{Kind: 0}), "", api.ErrArg},
		{"a byte, then a text", fields(short(256), text(rep(32769))), "", api.ErrRange},
		{"a text, then a byte", fields(text(rep(32769)), short(256)), "", api.ErrFull},
		{"a name, then a bool", fields(names(""), truth(2)), "", api.ErrForm},
		{"a bool, then a name", fields(truth(2), names("")), "", api.ErrRange},
		{"too many names, and bad ones", fields(names(many(65, 0)...)), "", api.ErrFull},
		{"too much, then a byte", fields(over, over, short(256)), "", api.ErrFull},
		{"a byte, then too much", fields(over, short(256), over), "", api.ErrRange},
		{"a bad name where it is too much as well", fields(over, text(rep(1016)), names("")), "", api.ErrForm},
		{"a byte too great where it is too much as well", fields(over, text(rep(1016)), short(256)), "", api.ErrRange},
	})
}

// P1.1: what a kind doesn't name isn't looked at.
func TestWriteLooksAtItsOwn(t *testing.T) {
	junk := func(kind int) api.Field {
		return api.Field{Kind: kind, N: 1, Text: []byte("t"), List: []string{"l"}}
	}
	worse := api.Field{N: math.MaxUint32, Text: make([]byte, 40000), List: make([]string, 99)}
	for kind, want := range map[int]string{api.Byte: "\x01", api.Bool: "\x01", api.Uint32: "\x00\x00\x00\x01", api.String: "\x00\x00\x00\x01t", api.Names: "\x00\x00\x00\x01l", api.Rest: "t"} {
		f := junk(kind)
		switch kind {
		case api.Byte, api.Bool, api.Uint32:
			f.Text, f.List = worse.Text, worse.List
		case api.String, api.Rest:
			f.N, f.List = worse.N, worse.List
		case api.Names:
			f.N, f.Text = worse.N, worse.Text
		}
		b, e := octet.Write(fields(f))
		if string(b) != want || e != api.OK {
			t.Errorf("kind %d: %x, error %d", kind, b, e)
		}
		if n := octet.Size(f); n != len(want) {
			t.Errorf("kind %d: size %d", kind, n)
		}
	}
}

// P1.1: Size.
func TestSize(t *testing.T) {
	for _, x := range []struct {
		what string
		f    api.Field
		want int
	}{
		{"a byte", short(255), 1}, {"a bool", truth(1), 1}, {"a number", number(math.MaxUint32), 4},
		{"a text", text("ab"), 6}, {"an empty text", text(""), 4}, {"the longest text", text(rep(32768)), 32772},
		{"names", names("a", "bc"), 8}, {"no names", names(), 4}, {"the most names", names(many(64, 64)...), 4163},
		{"a rest", rest("abc"), 3}, {"an empty rest", rest(""), 0}, {"the longest rest", rest(rep(33792)), 33792},
		{"kind 0", api.Field{Kind: 0, N: 1}, 0}, {"kind 7", api.Field{Kind: 7, N: 1}, 0}, {"a kind below 0", api.Field{Kind: -6}, 0},
		{"a byte too great", short(256), 0}, {"a bool too great", truth(2), 0},
		{"a text too long", text(rep(32769)), 0}, {"a rest too long", rest(rep(33793)), 0},
		{"names too many", names(many(65, 1)...), 0}, {"an empty name", names(""), 0}, {"a name too long", names(rep(65)), 0}, {"a comma", names(","), 0},
	} {
		if n := octet.Size(x.f); n != x.want {
			t.Errorf("%s: %d; want %d", x.what, n, x.want)
		}
	}
}

type readCase struct {
	what  string
	kinds []int
	b     string
	want  []api.Field
	e     api.Errno
}

func checkRead(t *testing.T, cases []readCase) {
	t.Helper()
	for _, x := range cases {
		l, e := octet.Read(x.kinds, []byte(x.b))
		if !slices.EqualFunc(l, x.want, same) || e != x.e {
			t.Errorf("%s: %d fields, error %d; want %d fields, error %d", x.what, len(l), e, len(x.want), x.e)
		}
	}
}

func kinds(l ...int) []int { return l }

// P1.2: what is read.
func TestReadFields(t *testing.T) {
	checkRead(t, []readCase{
		{"nothing", nil, "", nil, api.OK},
		{"a bool that is 7", kinds(api.Bool), "\x07", fields(truth(1)), api.OK},
		{"bools", kinds(api.Bool, api.Bool, api.Bool), "\x00\x01\xff", fields(truth(0), truth(1), truth(1)), api.OK},
		{"bytes", kinds(api.Byte, api.Byte), "\x00\xff", fields(short(0), short(255)), api.OK},
		{"numbers", kinds(api.Uint32, api.Uint32), "\x01\x02\x03\x04\xff\xff\xff\xff", fields(number(0x01020304), number(math.MaxUint32)), api.OK},
		{"texts", kinds(api.String, api.String), "\x00\x00\x00\x00\x00\x00\x00\x03\x00,\xff", fields(text(""), text("\x00,\xff")), api.OK},
		{"the longest text", kinds(api.String), head(32768) + rep(32768), fields(text(rep(32768))), api.OK},
		{"no names", kinds(api.Names), head(0), fields(names()), api.OK},
		{"names", kinds(api.Names, api.Byte), head(5) + "a,!,~\x09", fields(names("a", "!", "~"), short(9)), api.OK},
		{"the most names", kinds(api.Names), head(4159) + strings.Join(many(64, 64), ","), fields(names(many(64, 64)...)), api.OK},
		{"an empty rest", kinds(api.Rest), "", fields(rest("")), api.OK},
		{"a rest behind a byte", kinds(api.Byte, api.Rest), "\x05\x00ab", fields(short(5), rest("\x00ab")), api.OK},
		{"the longest rest", kinds(api.Rest), rep(33792), fields(rest(rep(33792))), api.OK},
		{"the longest rest behind a byte", kinds(api.Byte, api.Rest), "\x01" + rep(33792), fields(short(1), rest(rep(33792))), api.OK},
		{"all kinds", kinds(api.Byte, api.Bool, api.Uint32, api.String, api.Names, api.Rest), "\x02\x00\x00\x00\x01\x00\x00\x00\x00\x01s\x00\x00\x00\x01nr", fields(short(2), truth(0), number(256), text("s"), names("n"), rest("r")), api.OK},
	})
}

// P1.2: what may not be.
func TestReadWrong(t *testing.T) {
	checkRead(t, []readCase{
		{"kind 0", kinds(0), "", nil, api.ErrArg},
		{"kind 7", kinds(7), "a", nil, api.ErrArg},
		{"a kind below 0", kinds(-1), "a", nil, api.ErrArg},
		{"the least kind", kinds(math.MinInt), "a", nil, api.ErrArg},
		{"the greatest kind", kinds(math.MaxInt), "a", nil, api.ErrArg},
		{"a rest that isn't the last", kinds(api.Rest, api.Byte), "ab", nil, api.ErrArg},
		{"two rests", kinds(api.Rest, api.Rest), "ab", nil, api.ErrArg},
		{"no byte", kinds(api.Byte), "", nil, api.ErrShort},
		{"no bool", kinds(api.Bool), "", nil, api.ErrShort},
		{"three bytes of a number", kinds(api.Uint32), "abc", nil, api.ErrShort},
		{"three bytes of a length", kinds(api.String), "\x00\x00\x00", nil, api.ErrShort},
		{"three bytes of a great length", kinds(api.Names), "\xff\xff\xff", nil, api.ErrShort},
		{"a text that ends", kinds(api.String), "\x00\x00\x00\x05a", nil, api.ErrShort},
		{"names that end", kinds(api.Names), "\x00\x00\x00\x05a,b,", nil, api.ErrShort},
		{"the longest text but a byte", kinds(api.String), head(32768) + rep(32767), nil, api.ErrShort},
		{"the second one", kinds(api.Byte, api.Byte), "a", nil, api.ErrShort},
		{"a text too long", kinds(api.String), head(32769) + rep(32769), nil, api.ErrFull},
		{"names too long", kinds(api.Names), head(32769) + rep(32769), nil, api.ErrFull},
		{"the greatest length", kinds(api.String), "\xff\xff\xff\xff", nil, api.ErrFull},
		{"the greatest length of names", kinds(api.Names), "\xff\xff\xff\xff", nil, api.ErrFull},
		{"65 names", kinds(api.Names), head(129) + strings.Join(many(65, 1), ","), nil, api.ErrFull},
		{"a rest too long", kinds(api.Rest), rep(33793), nil, api.ErrFull},
		{"an empty name", kinds(api.Names), head(2) + "a,", nil, api.ErrForm},
		{"a comma alone", kinds(api.Names), head(1) + ",", nil, api.ErrForm},
		{"a name too long", kinds(api.Names), head(65) + rep(65), nil, api.ErrForm},
		{"a blank in a name", kinds(api.Names), head(3) + "a b", nil, api.ErrForm},
		{"a byte 127 in a name", kinds(api.Names), head(1) + "\x7f", nil, api.ErrForm},
		{"a byte 255 in a name", kinds(api.Names), head(1) + "\xff", nil, api.ErrForm},
		{"a byte left", kinds(api.Byte), "ab", nil, api.ErrForm},
		{"bytes left of no fields", nil, "a", nil, api.ErrForm},
		{"a byte left behind a text", kinds(api.String), head(1) + "ab", nil, api.ErrForm},
	})
}

// P1.2: which of several errors is told.
func TestReadErrorsInOrder(t *testing.T) {
	checkRead(t, []readCase{
		{"a kind behind bytes that end", kinds(api.Byte, 0), "", nil, api.ErrArg},
		{"a place behind a bad name", kinds(api.Names, api.Rest, api.Byte), head(1) + ",", nil, api.ErrArg},
		{"a text too long that ends", kinds(api.String), "\x00\x00\x80\x01a", nil, api.ErrFull},
		{"names too long that end", kinds(api.Names), "\x00\x00\x80\x01,", nil, api.ErrFull},
		{"names that end, too many and bad", kinds(api.Names), head(100) + strings.Repeat(",", 99), nil, api.ErrShort},
		{"too many names, bad ones", kinds(api.Names), head(64) + strings.Repeat(",", 64), nil, api.ErrFull},
		{"64 names, bad ones", kinds(api.Names), head(63) + strings.Repeat(",", 63), nil, api.ErrForm},
		{"a bad name, then bytes that end", kinds(api.Names, api.Byte), head(1) + ",", nil, api.ErrForm},
		{"a bad name, then a text too long", kinds(api.Names, api.String), head(1) + ",\xff\xff\xff\xff", nil, api.ErrForm},
		{"a text too long, then a bad name", kinds(api.String, api.Names), "\xff\xff\xff\xff" + head(1) + ",", nil, api.ErrFull},
		{"too many names, and a byte left", kinds(api.Names), head(64) + strings.Repeat(",", 65), nil, api.ErrFull},
	})
}

// rows is a rule by which the tests go through many cases; it isn't by chance.
type rows uint64

func (r *rows) below(n int) int {
	*r = *r*6364136223846793005 + 1442695040888963407
	return int(uint64(*r>>33) % uint64(n))
}

func (r *rows) bytes(most int) []byte {
	b := make([]byte, r.below(most+1))
	for i := range b {
		b[i] = byte(r.below(256))
	}
	return b
}

func (r *rows) names() []string {
	var l []string
	for range r.below(5) {
		n := make([]byte, 1+r.below(9))
		for i := range n {
			n[i] = byte('-' + r.below(126-'-'+1))
		}
		l = append(l, string(n))
	}
	return l
}

// field is some right field of a kind.
func (r *rows) field(kind int) api.Field {
	switch kind {
	case api.Byte:
		return short(uint32(r.below(256)))
	case api.Bool:
		return truth(uint32(r.below(2)))
	case api.Uint32:
		return number(uint32(r.below(1<<31)) * 2)
	case api.Names:
		return names(r.names()...)
	}
	return api.Field{Kind: kind, Text: r.bytes(30)}
}

// list is some right fields.
func (r *rows) list() []api.Field {
	var l []api.Field
	for range r.below(8) {
		l = append(l, r.field(api.Byte+r.below(5)))
	}
	if r.below(2) == 0 {
		l = append(l, r.field(api.Rest))
	}
	return l
}

func kindsOf(l []api.Field) []int {
	var k []int
	for _, f := range l {
		k = append(k, f.Kind)
	}
	return k
}

// P1.3: what is written is read, and fields written apart are the fields written at once.
func TestWrittenIsRead(t *testing.T) {
	var r rows
	for range 3000 {
		l := r.list()
		b, e := octet.Write(l)
		if e != api.OK {
			t.Fatalf("%v: error %d", l, e)
		}
		back, e := octet.Read(kindsOf(l), b)
		if e != api.OK || !slices.EqualFunc(back, l, same) {
			t.Fatalf("%v came back as %v, error %d", l, back, e)
		}
		var apart []byte
		size := 0
		for _, f := range l {
			one, _ := octet.Write(fields(f))
			apart = append(apart, one...)
			size += octet.Size(f)
		}
		if !bytes.Equal(apart, b) || size != len(b) {
			t.Fatalf("%v: apart %x, at once %x, sizes %d", l, apart, b, size)
		}
	}
}

// P1.3: what is read is written as it came, but for Bools.
func TestReadIsWritten(t *testing.T) {
	var r rows
	read := 0
	for range 3000 {
		l := r.list()
		b, _ := octet.Write(l)
		for i := range b {
			if r.below(8) == 0 {
				b[i] = byte(r.below(256))
			}
		}
		got, e := octet.Read(kindsOf(l), b)
		if e != api.OK {
			continue
		}
		read++
		back, e := octet.Write(got)
		if e != api.OK || len(back) != len(b) {
			t.Fatalf("%x came back as %x, error %d", b, back, e)
		}
		at := 0
		for _, f := range got {
			n := octet.Size(f)
			if f.Kind == api.Bool {
				if f.N != min(uint32(b[at]), 1) || back[at] != byte(f.N) {
					t.Fatalf("%x: the bool at %d: %v", b, at, f)
				}
			} else if !bytes.Equal(back[at:at+n], b[at:at+n]) {
				t.Fatalf("%x came back as %x", b, back)
			}
			at += n
		}
	}
	if read < 500 {
		t.Errorf("only %d were read", read)
	}
}

// P1.1 and P1.2: an answer shares nothing, and what is handed in isn't changed, its spare room included.
func TestNothingIsShared(t *testing.T) {
	room := []byte("abcdefgh")
	list := []string{"n", "m", "spare"}
	in := fields(api.Field{Kind: api.String, Text: room[:2]}, api.Field{Kind: api.Names, List: list[:2]}, api.Field{Kind: api.Rest, Text: room[2:4]})
	b, _ := octet.Write(in)
	clear(b[:cap(b)])
	if string(room) != "abcdefgh" || !slices.Equal(list, []string{"n", "m", "spare"}) || len(in[0].Text) != 2 || len(in[1].List) != 2 {
		t.Error("Write changed what was handed in")
	}
	for _, f := range in {
		b, _ := octet.Write(fields(f))
		clear(b[:cap(b)])
		if string(room) != "abcdefgh" {
			t.Fatalf("Write of kind %d alone answers what was handed in", f.Kind)
		}
	}

	k := kinds(api.String, api.Names, api.Names, api.String, api.Rest, 99)
	packet := []byte(head(2) + "ab" + head(3) + "a,b" + head(1) + "c" + head(2) + "cd" + "rest" + "behind")
	whole := string(packet)
	l, e := octet.Read(k[:5], packet[:len(packet)-6])
	if e != api.OK {
		t.Fatal(e)
	}
	for i := range l {
		own := l[i].Text[:cap(l[i].Text)]
		for j := range own {
			own[j] = byte('0' + i)
		}
		names := l[i].List[:cap(l[i].List)]
		for j := range names {
			names[j] = head(i)
		}
	}
	if string(packet) != whole || !slices.Equal(k, kinds(api.String, api.Names, api.Names, api.String, api.Rest, 99)) {
		t.Error("Read's answer shares memory with what was handed in")
	}
	if string(l[0].Text) != "00" || string(l[3].Text) != "33" || string(l[4].Text) != "4444" || l[1].List[0] != head(1) || l[2].List[0] != head(2) {
		t.Error("lists of Read's answer share memory")
	}
	clear(packet)
	if string(l[0].Text) != "00" {
		t.Error("Read kept what was handed in")
	}
}

// P1: whatever the arguments, a call answers; beside an error it answers nothing else.
func TestAnyArguments(t *testing.T) {
	var r rows
	for range 20000 {
		var l []api.Field
		var k []int
		for range r.below(4) {
			f := api.Field{Kind: r.below(9) - 1, N: uint32(r.below(300)), Text: r.bytes(6), List: strings.Split(string(r.bytes(4)), "\x00")}
			l = append(l, f)
			k = append(k, f.Kind)
		}
		b, e := octet.Write(l)
		if e != api.OK && b != nil {
			t.Fatalf("%v: bytes beside the error %d", l, e)
		}
		got, e := octet.Read(k, r.bytes(20))
		if e != api.OK && got != nil {
			t.Fatalf("%v: fields beside the error %d", k, e)
		}
		for _, f := range l {
			one, e := octet.Write(fields(f))
			if n := octet.Size(f); n != len(one) || e != api.OK && n != 0 {
				t.Fatalf("%v: size %d, error %d", f, n, e)
			}
		}
	}
	if b, e := octet.Write(nil); len(b) != 0 || e != api.OK {
		t.Error("Write of nil")
	}
	if l, e := octet.Read(nil, nil); len(l) != 0 || e != api.OK {
		t.Error("Read of nil")
	}
}
