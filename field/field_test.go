package field

import (
	"bytes"
	"math"
	"regexp"
	"slices"
	"strconv"
	"strings"
	"testing"

	"checkroll/api"
)

// fields are many of one tag and value.
func fields(many, tag int, value string) []api.Field {
	return slices.Repeat([]api.Field{{Tag: tag, Value: value}}, many)
}

func letters(many int) string { return strings.Repeat("a", many) }

func TestP21Right(t *testing.T) {
	for _, c := range []struct {
		f  api.Field
		ok bool
	}{
		{api.Field{Tag: 35, Value: "A"}, true},
		{api.Field{Tag: 1, Value: "a"}, true},
		{api.Field{Tag: 9999, Value: "a"}, true},
		{api.Field{Tag: 0, Value: "a"}, false},
		{api.Field{Tag: -1, Value: "a"}, false},
		{api.Field{Tag: 10000, Value: "a"}, false},
		{api.Field{Tag: math.MaxInt, Value: "a"}, false},
		{api.Field{Tag: math.MinInt, Value: "a"}, false},
		{api.Field{Tag: 1<<16 + 35, Value: "a"}, false},
		{api.Field{Tag: math.MinInt32, Value: "a"}, false},
		{api.Field{Tag: 35}, false},
		{api.Field{}, false},
		{api.Field{Tag: 35, Value: letters(255)}, true},
		{api.Field{Tag: 35, Value: letters(256)}, true},
		{api.Field{Tag: 35, Value: letters(257)}, false},
		{api.Field{Tag: 35, Value: letters(10000)}, false},
		{api.Field{Tag: 35, Value: strings.Repeat("é", 128)}, true},
		{api.Field{Tag: 35, Value: strings.Repeat("é", 128) + "a"}, false},
		{api.Field{Tag: 35, Value: "\x01"}, false},
		{api.Field{Tag: 35, Value: "\x01a"}, false},
		{api.Field{Tag: 35, Value: "a\x01"}, false},
		{api.Field{Tag: 35, Value: "a\x01b"}, false},
		{api.Field{Tag: 35, Value: letters(255) + "\x01"}, false},
		{api.Field{Tag: 35, Value: "="}, true},
		{api.Field{Tag: 35, Value: "1=2"}, true},
		{api.Field{Tag: 35, Value: "\x00"}, true},
		{api.Field{Tag: 35, Value: "\xff\xfe"}, true},
		{api.Field{Tag: 35, Value: " "}, true},
		{api.Field{Tag: 35, Value: "\n"}, true},
	} {
		if ok := Right(c.f); ok != c.ok {
			t.Errorf("Right(%d, %q): %v", c.f.Tag, c.f.Value, ok)
		}
	}
}

func TestP21RightEachByte(t *testing.T) {
	for b := range 256 {
		value := string([]byte{'a', byte(b), 'b'})
		if ok := Right(api.Field{Tag: 1, Value: value}); ok != (b != 1) {
			t.Errorf("Right(%q): %v", value, ok)
		}
	}
}

func TestP21Put(t *testing.T) {
	for _, c := range []struct {
		l    []api.Field
		text string
		e    api.Errno
	}{
		{nil, "", api.OK},
		{[]api.Field{}, "", api.OK},
		{[]api.Field{{Tag: 35, Value: "A"}}, "35=A\x01", api.OK},
		{[]api.Field{{Tag: 1, Value: "x"}, {Tag: 9999, Value: "y"}}, "1=x\x019999=y\x01", api.OK},
		{[]api.Field{{Tag: 7, Value: "b"}, {Tag: 7, Value: "a"}, {Tag: 3, Value: "c"}}, "7=b\x017=a\x013=c\x01", api.OK},
		{[]api.Field{{Tag: 35, Value: "="}, {Tag: 36, Value: "1=2"}}, "35==\x0136=1=2\x01", api.OK},
		{[]api.Field{{Tag: 35, Value: "\x00\xff\x02"}}, "35=\x00\xff\x02\x01", api.OK},
		{fields(1, 35, letters(256)), "35=" + letters(256) + "\x01", api.OK},
		{fields(100, 1, "a"), strings.Repeat("1=a\x01", 100), api.OK},
		{fields(100, 9999, letters(256)), strings.Repeat("9999="+letters(256)+"\x01", 100), api.OK},
		{fields(101, 1, "a"), "", api.ErrLong},
		{fields(10000, 1, "a"), "", api.ErrLong},
		{fields(101, 0, ""), "", api.ErrLong},
		{slices.Concat(fields(1, 0, "a"), fields(100, 1, "a")), "", api.ErrLong},
		{slices.Concat(fields(100, 1, "a"), fields(1, 0, "a")), "", api.ErrLong},
		{slices.Concat(fields(99, 1, "a"), fields(1, 0, "a")), "", api.ErrArg},
		{slices.Concat(fields(1, 10000, "a"), fields(99, 1, "a")), "", api.ErrArg},
		{fields(1, 0, "a"), "", api.ErrArg},
		{fields(1, -35, "a"), "", api.ErrArg},
		{fields(1, 10000, "a"), "", api.ErrArg},
		{fields(1, 35, ""), "", api.ErrArg},
		{fields(1, 35, letters(257)), "", api.ErrArg},
		{fields(1, 35, "a\x01"), "", api.ErrArg},
		{[]api.Field{{Tag: 1, Value: "a"}, {Tag: 2, Value: ""}, {Tag: 3, Value: "c"}}, "", api.ErrArg},
	} {
		if b, e := Put(c.l); string(b) != c.text || e != c.e {
			t.Errorf("Put(%d fields, %.60v): %q %d, want %q %d", len(c.l), c.l, b, e, c.text, c.e)
		}
	}
}

func TestP21Parse(t *testing.T) {
	for _, c := range []struct {
		text string
		l    []api.Field
	}{
		{"", nil},
		{"35=A\x01", []api.Field{{Tag: 35, Value: "A"}}},
		{"1=x\x019999=y\x01", []api.Field{{Tag: 1, Value: "x"}, {Tag: 9999, Value: "y"}}},
		{"7=b\x017=a\x013=c\x01", []api.Field{{Tag: 7, Value: "b"}, {Tag: 7, Value: "a"}, {Tag: 3, Value: "c"}}},
		{"35==\x01", []api.Field{{Tag: 35, Value: "="}}},
		{"35=1=2=\x01", []api.Field{{Tag: 35, Value: "1=2="}}},
		{"35= 7\x01", []api.Field{{Tag: 35, Value: " 7"}}},
		{"35=\x00\xff\n\x01", []api.Field{{Tag: 35, Value: "\x00\xff\n"}}},
		{"35=" + letters(256) + "\x01", fields(1, 35, letters(256))},
		{strings.Repeat("1=a\x01", 100), fields(100, 1, "a")},
		{strings.Repeat("9999="+letters(256)+"\x01", 100), fields(100, 9999, letters(256))},
	} {
		if l, e := Parse([]byte(c.text)); e != api.OK || !slices.Equal(l, c.l) {
			t.Errorf("Parse(%.60q): %.60v %d", c.text, l, e)
		}
	}
	if l, e := Parse(nil); e != api.OK || len(l) != 0 {
		t.Error("Parse(nil):", l, e)
	}
}

func TestP21ParseErrors(t *testing.T) {
	hundred := strings.Repeat("1=a\x01", 100)
	for _, c := range []struct {
		text string
		e    api.Errno
	}{
		{"3", api.ErrShort},
		{"35", api.ErrShort},
		{"35=", api.ErrShort},
		{"35=A", api.ErrShort},
		{"35=A\x0136=B", api.ErrShort},
		{"35=A\x01x", api.ErrShort},
		{"=", api.ErrShort},
		{"035=A", api.ErrShort},
		{"35=" + letters(257), api.ErrShort},
		{letters(1 << 16), api.ErrShort},
		{"1=" + letters(1<<16-2), api.ErrShort},
		{"\x01", api.ErrForm},
		{"\x01\x01", api.ErrForm},
		{"=\x01", api.ErrForm},
		{"=A\x01", api.ErrForm},
		{"35A\x01", api.ErrForm},
		{"35\x01", api.ErrForm},
		{"35=\x01", api.ErrForm},
		{"35=\x01\x01", api.ErrForm},
		{"35=A\x01\x01", api.ErrForm},
		{"35=A\x0136\x0137=B\x01", api.ErrForm},
		{"A=35\x01", api.ErrForm},
		{"035=A\x01", api.ErrForm},
		{"0035=A\x01", api.ErrForm},
		{"00=A\x01", api.ErrForm},
		{"0=A\x01", api.ErrForm},
		{"-0=A\x01", api.ErrForm},
		{"+35=A\x01", api.ErrForm},
		{"-35=A\x01", api.ErrForm},
		{"-1=A\x01", api.ErrForm},
		{" 35=A\x01", api.ErrForm},
		{"35 =A\x01", api.ErrForm},
		{"3_5=A\x01", api.ErrForm},
		{"0x23=A\x01", api.ErrForm},
		{"35.0=A\x01", api.ErrForm},
		{"٣=A\x01", api.ErrForm},
		{"35:A\x01", api.ErrForm},
		{"10000=A\x01", api.ErrForm},
		{"65571=A\x01", api.ErrForm},
		{"4294967331=A\x01", api.ErrForm},
		{"-4294967261=A\x01", api.ErrForm},
		{"4611686018427387904=A\x01", api.ErrForm},
		{"4611686018427387905=A\x01", api.ErrForm},
		{"18446744073709551651=A\x01", api.ErrForm},
		{strings.Repeat("9", 21) + "=A\x01", api.ErrForm},
		{strings.Repeat("0", 21) + "=A\x01", api.ErrForm},
		{"35=" + letters(257) + "\x01", api.ErrForm},
		{"35=" + letters(60000) + "\x01", api.ErrForm},
		{letters(1<<16-1) + "\x01", api.ErrForm},
		{hundred + "1=a\x01", api.ErrLong},
		{hundred + "1=a\x011", api.ErrLong},
		{hundred + "1=a\x01\x01", api.ErrLong},
		{hundred + "1=a", api.ErrShort},
		{hundred + "x", api.ErrShort},
		{hundred + "\x01", api.ErrForm},
		{hundred + "1\x01", api.ErrForm},
		{hundred + "01=a\x01", api.ErrForm},
		{"01=a\x01" + hundred, api.ErrForm},
		{"01=a\x0135=A", api.ErrForm},
		{"35=A\x0136=\x0137=B", api.ErrForm},
		{strings.Repeat("1=a\x01", 1<<14), api.ErrLong},
		{"01=a\x01" + strings.Repeat("a", 1<<16-5), api.ErrForm},
		{"01=a\x01" + strings.Repeat("a", 1<<16-4), api.ErrLong},
		{letters(1<<16 + 1), api.ErrLong},
		{letters(1<<16) + "\x01", api.ErrLong},
		{"\x01" + letters(1<<16), api.ErrLong},
		{letters(1 << 20), api.ErrLong},
	} {
		if l, e := Parse([]byte(c.text)); len(l) != 0 || e != c.e {
			t.Errorf("Parse(%d bytes, %.60q): %.60v %d, want %d", len(c.text), c.text, l, e, c.e)
		}
	}
}

var formOfFields = regexp.MustCompile(`(?s)^([1-9][0-9]{0,3})=([^\x01]{1,256})\z`)

// wantParse reckons by a pattern what Parse has to tell. The pattern counts
// runes, so each byte is made a rune of its own ahead of it.
func wantParse(text string) ([]api.Field, api.Errno) {
	if len(text) > 1<<16 {
		return nil, api.ErrLong
	}
	parts := strings.Split(text, "\x01")
	var l []api.Field
	for i, part := range parts {
		if i == len(parts)-1 {
			if part != "" {
				return nil, api.ErrShort
			}
			return l, api.OK
		}
		found := formOfFields.FindStringSubmatch(widened(part))
		if found == nil {
			return nil, api.ErrForm
		}
		if i == 100 {
			return nil, api.ErrLong
		}
		tag, _ := strconv.Atoi(found[1])
		l = append(l, api.Field{Tag: tag, Value: part[len(found[1])+1:]})
	}
	return nil, api.ErrArg
}

func widened(text string) string {
	var runes []rune
	for i := range len(text) {
		runes = append(runes, rune(text[i]))
	}
	return string(runes)
}

func checkParse(t *testing.T, text string) {
	t.Helper()
	l, e := wantParse(text)
	m, f := Parse([]byte(text))
	if !slices.Equal(m, l) || f != e {
		t.Errorf("Parse(%.80q): %.80v %d, want %.80v %d", text, m, f, l, e)
	}
	if f != api.OK {
		return
	}
	if b, e := Put(m); e != api.OK || string(b) != text {
		t.Errorf("Put(Parse(%.80q)): %.80q %d", text, b, e)
	}
}

func TestP21ParseEachShortText(t *testing.T) {
	texts := []string{""}
	for range 7 {
		var longer []string
		for _, text := range texts {
			checkParse(t, text)
			for _, b := range []string{"0", "1", "=", "\x01"} {
				longer = append(longer, text+b)
			}
		}
		texts = longer
	}
}

// Each byte takes the place of each one of a text, and stands between each two
// of them.
func TestP21ParseByteInEachPlace(t *testing.T) {
	for _, text := range []string{"35=A\x01", "9999=x=y\x011=-5\x01", "10=a\x01"} {
		for place := range len(text) + 1 {
			checkParse(t, text[:place])
			for b := range 256 {
				one := string([]byte{byte(b)})
				checkParse(t, text[:place]+one+text[place:])
				if place < len(text) {
					checkParse(t, text[:place]+one+text[place+1:])
				}
			}
		}
	}
}

func TestP21ParseEachTag(t *testing.T) {
	for tag := -20; tag <= 10020; tag++ {
		checkParse(t, strconv.Itoa(tag)+"=v\x01")
	}
}

func TestP21ParseEachLength(t *testing.T) {
	for many := range 520 {
		checkParse(t, "35="+letters(many)+"\x01")
	}
	for many := 90; many < 110; many++ {
		checkParse(t, strings.Repeat("35=A\x01", many))
	}
}

func TestP22Get(t *testing.T) {
	l := []api.Field{{Tag: 35, Value: "A"}, {Tag: 36, Value: ""}, {Tag: 35, Value: "B"}, {Tag: 36, Value: "C"}, {Tag: 0, Value: "zero"}, {Tag: -7, Value: "\x01"}, {Tag: 10000, Value: letters(257)}, {Tag: math.MaxInt, Value: "most"}, {Tag: math.MinInt, Value: "least"}}
	for _, c := range []struct {
		tag   int
		value string
		ok    bool
	}{{35, "A", true}, {36, "", true}, {0, "zero", true}, {-7, "\x01", true}, {10000, letters(257), true}, {math.MaxInt, "most", true}, {math.MinInt, "least", true}, {1, "", false}, {34, "", false}, {9999, "", false}, {-1, "", false}, {7, "", false}} {
		if value, ok := Get(l, c.tag); value != c.value || ok != c.ok {
			t.Errorf("Get(%d): %q %v", c.tag, value, ok)
		}
		if value, ok := Get(nil, c.tag); value != "" || ok {
			t.Errorf("Get(nil, %d): %q %v", c.tag, value, ok)
		}
	}
	if value, ok := Get(slices.Concat(fields(1000, 1, "a"), fields(1, 2, "b")), 2); value != "b" || !ok {
		t.Errorf("Get behind many: %q %v", value, ok)
	}
}

func TestP22Num(t *testing.T) {
	for _, c := range []struct {
		value string
		n     int64
		ok    bool
	}{
		{"0", 0, true},
		{"7", 7, true},
		{"-5", -5, true},
		{"4611686018427387904", api.MaxNum, true},
		{"-4611686018427387904", -api.MaxNum, true},
		{"4611686018427387905", 0, false},
		{"-4611686018427387905", 0, false},
		{"9223372036854775807", 0, false},
		{"18446744073709551623", 0, false},
		{strings.Repeat("9", 21), 0, false},
		{"", 0, false},
		{"A", 0, false},
		{"-", 0, false},
		{"-0", 0, false},
		{"07", 0, false},
		{"+7", 0, false},
		{" 7", 0, false},
		{"7 ", 0, false},
		{"7\x01", 0, false},
	} {
		for _, tag := range []int{35, 1, 9999, 0, -3, 10000, math.MinInt} {
			l := []api.Field{{Tag: 34, Value: "1"}, {Tag: tag, Value: c.value}, {Tag: tag, Value: "2"}, {Tag: 37, Value: "3"}}
			if n, ok := Num(l, tag); n != c.n || ok != c.ok {
				t.Errorf("Num(%q of %d): %d %v", c.value, tag, n, ok)
			}
		}
	}
	for _, l := range [][]api.Field{nil, {}, {{Tag: 34, Value: "1"}}, {{Tag: 34, Value: "35"}, {Tag: 350, Value: "2"}}} {
		if n, ok := Num(l, 35); n != 0 || ok {
			t.Errorf("Num(%v, 35): %d %v", l, n, ok)
		}
	}
}

func TestP23PutIsReadAsItWas(t *testing.T) {
	var each []api.Field
	for b := range 256 {
		if b != 1 {
			each = append(each, api.Field{Tag: b + 1, Value: string([]byte{byte(b)})})
		}
	}
	for _, l := range [][]api.Field{nil, each[:100], each[100:200], each[200:], fields(100, 9999, letters(256)), fields(3, 1, "="), {{Tag: 10, Value: "10=10"}, {Tag: 1, Value: strings.Repeat("=", 256)}, {Tag: 10, Value: "-0"}}} {
		b, e := Put(l)
		if e != api.OK {
			t.Errorf("Put(%.60v): %d", l, e)
		}
		if m, e := Parse(b); e != api.OK || !slices.Equal(m, l) {
			t.Errorf("Parse(Put(%.60v)): %.60v %d", l, m, e)
		}
	}
	for _, tag := range []int{1, 2, 9, 10, 99, 100, 999, 1000, 9998, 9999} {
		for many := 1; many <= 256; many++ {
			l := fields(2, tag, letters(many))
			b, e := Put(l)
			if m, f := Parse(b); e != api.OK || f != api.OK || !slices.Equal(m, l) {
				t.Errorf("tag %d, %d bytes: %d %d", tag, many, e, f)
			}
		}
	}
}

func TestP23ReadWasPutInJustTheseBytes(t *testing.T) {
	for _, text := range []string{"", "35=A\x01", "1==\x01", "9999= x \x011=0\x011=-0\x01", "8=\x00\x02\xff\x01", strings.Repeat("10=a=b\x01", 100)} {
		l, e := Parse([]byte(text))
		if e != api.OK {
			t.Errorf("Parse(%.60q): %d", text, e)
		}
		if b, e := Put(l); e != api.OK || string(b) != text {
			t.Errorf("Put(Parse(%.60q)): %q %d", text, b, e)
		}
	}
}

func TestArgumentsAreLeftAlone(t *testing.T) {
	whole := []byte("35=A\x0136=B\x01 and behind")
	room := bytes.Clone(whole)
	l, e := Parse(room[:10])
	if e != api.OK || !bytes.Equal(room, whole) {
		t.Errorf("Parse: %v %d %q", l, e, room)
	}
	copy(room, strings.Repeat("x", len(room)))
	if !slices.Equal(l, []api.Field{{Tag: 35, Value: "A"}, {Tag: 36, Value: "B"}}) {
		t.Error("what was read hangs on the bytes:", l)
	}
	all := []api.Field{{Tag: 1, Value: "a"}, {Tag: 2, Value: "b"}, {Tag: 3, Value: "c"}}
	kept := slices.Clone(all)
	b, _ := Put(all[:2])
	Get(all[:2], 2)
	Num(all[:2], 2)
	if !slices.Equal(all, kept) {
		t.Error("Put, Get or Num:", all)
	}
	b[0] = 'x'
	if again, _ := Put(all[:2]); string(again) != "1=a\x012=b\x01" {
		t.Errorf("Put again: %q", again)
	}
}
