package frame

import (
	"bytes"
	"fmt"
	"slices"
	"strconv"
	"strings"
	"testing"

	"checkroll/api"
)

// begin, as the chapter writes it.
const begin = "8=FIX.4.4\x019="

// zero and its like are frames whose sums were reckoned by another program.
const (
	zero  = "8=FIX.4.4\x019=5\x0135=0\x0110=163\x01"
	small = "8=FIX.4.4\x019=4\x011=a\x0110=156\x01"
	two   = "8=FIX.4.4\x019=10\x0135=0\x0134=2\x0110=166\x01"
	none  = "8=FIX.4.4\x019=5\x0158=\x88\x0110=000\x01"
	nine  = "8=FIX.4.4\x019=5\x0158=\x91\x0110=009\x01"
	most  = "8=FIX.4.4\x019=5\x0158=\x87\x0110=255\x01"
	named = "8=FIX.4.4\x019=14\x0158=x8=FIX.4.4\x0110=064\x01"
)

func letters(many int) string { return strings.Repeat("a", many) }

// bodyOf is a body that may be one, of many bytes: 4 to 8000.
func bodyOf(many int) string {
	var b strings.Builder
	for many-b.Len() > 250 {
		b.WriteString("58=" + letters(200) + "\x01")
	}
	b.WriteString("1=" + letters(many-b.Len()-3) + "\x01")
	return b.String()
}

// sumOf reckons a sum in an int.
func sumOf(s string) int {
	sum := 0
	for i := range len(s) {
		sum += int(s[i])
	}
	return sum % 256
}

// framed is the form of a frame around any body, with a length's text and a sum
// of one's own.
func framed(length, body, sum string) string {
	return begin + length + "\x01" + body + "10=" + sum + "\x01"
}

// fitted is that form with the length and the sum that fit.
func fitted(body string) string {
	length := strconv.Itoa(len(body))
	return framed(length, body, fmt.Sprintf("%03d", sumOf(begin+length+"\x01"+body)))
}

// mayBe reckons of a body what Right has to tell.
func mayBe(body string) bool {
	if len(body) < 1 || len(body) > 8000 || body[len(body)-1] != 1 {
		return false
	}
	parts := strings.Split(body[:len(body)-1], "\x01")
	for _, part := range parts {
		name, value, ok := strings.Cut(part, "=")
		tag, err := strconv.Atoi(name)
		if !ok || err != nil || tag < 1 || tag > 9999 || strconv.Itoa(tag) != name {
			return false
		}
		if tag == 8 || tag == 9 || tag == 10 || len(value) < 1 || len(value) > 256 {
			return false
		}
	}
	return len(parts) <= 100
}

// heads are those of all frames, from a body's length of 1 on.
var heads = func() []string {
	var l []string
	for length := 1; length <= 8000; length++ {
		l = append(l, begin+strconv.Itoa(length)+"\x01")
	}
	return l
}()

// wantNext reckons what Next has to tell, by each length that there may be and
// each place of the bytes.
func wantNext(s string) (int, string, int) {
	for i, head := range heads {
		length := i + 1
		if strings.HasPrefix(head, s) {
			return api.Need, "", 0
		}
		rest, ok := strings.CutPrefix(s, head)
		if !ok {
			continue
		}
		if len(rest) < length+7 {
			return api.Need, "", 0
		}
		body := rest[:length]
		if mayBe(body) && strings.HasPrefix(s, fitted(body)) {
			return api.Frame, body, len(fitted(body))
		}
		break
	}
	for place := 1; place < len(s); place++ {
		if strings.HasPrefix(s[place:], begin) || strings.HasPrefix(begin, s[place:]) {
			return api.Junk, "", place
		}
	}
	return api.Junk, "", len(s)
}

func checkNext(t *testing.T, s string) {
	t.Helper()
	kind, body, many := wantNext(s)
	expectNext(t, s, kind, body, many)
}

func expectNext(t *testing.T, s string, kind int, body string, many int) {
	t.Helper()
	k, b, n := Next([]byte(s))
	if k != kind || string(b) != body || n != many {
		t.Errorf("Next(%d bytes, %.80q): %d %.40q %d, want %d %.40q %d", len(s), s, k, b, n, kind, body, many)
	}
}

// isJunk expects junk of so many bytes.
func isJunk(t *testing.T, s string, many int) {
	t.Helper()
	expectNext(t, s, api.Junk, "", many)
	checkNext(t, s)
}

func isNeed(t *testing.T, s string) {
	t.Helper()
	expectNext(t, s, api.Need, "", 0)
	checkNext(t, s)
}

func TestP31Sum(t *testing.T) {
	for _, c := range []struct {
		s   string
		sum int
	}{
		{"", 0},
		{"\x00", 0},
		{"\x01", 1},
		{"a", 97},
		{"\xff", 255},
		{"\xff\x01", 0},
		{"\xff\x02", 1},
		{"\x80\x80", 0},
		{"\xff\xff", 254},
		{"8=FIX.4.4\x019=5\x0135=0\x01", 163},
		{strings.Repeat("\xff", 257), 255},
		{strings.Repeat("\xff", 256), 0},
		{strings.Repeat("\x01", 1<<20+3), 3},
		{strings.Repeat("\xff", 1<<17+1), 255},
	} {
		if sum := Sum([]byte(c.s)); sum != c.sum {
			t.Errorf("Sum(%d bytes, %.40q): %d", len(c.s), c.s, sum)
		}
	}
	if sum := Sum(nil); sum != 0 {
		t.Error("Sum(nil):", sum)
	}
	for one := range 256 {
		if sum := Sum([]byte{byte(one)}); sum != one {
			t.Errorf("Sum(%d): %d", one, sum)
		}
		if sum := Sum([]byte{byte(one), 200}); sum != (one+200)%256 {
			t.Errorf("Sum(%d, 200): %d", one, sum)
		}
	}
}

// bodies are some that may be one, and some that may not.
func bodies() map[string]bool {
	return map[string]bool{
		"35=0\x01":                     true,
		"35=0\x0134=2\x01":             true,
		"1=a\x01":                      true,
		"9999=a\x01":                   true,
		"7=a\x01":                      true,
		"11=a\x01":                     true,
		"80=a\x01":                     true,
		"98=a\x01":                     true,
		"100=a\x01":                    true,
		"108=a\x01":                    true,
		"110=a\x01":                    true,
		"58=8=FIX.4.4\x01":             true,
		"58=10=000\x01":                true,
		"18=FIX.4.4\x0119=5\x01":       true,
		"58=\x00\xff=\n\x01":           true,
		"58=" + letters(256) + "\x01":  true,
		strings.Repeat("1=a\x01", 100): true,
		bodyOf(7999):                   true,
		bodyOf(8000):                   true,
		"":                             false,
		"a":                            false,
		"\x01":                         false,
		"35=0":                         false,
		"35=0\x0134=2":                 false,
		"35=0\x01\x01":                 false,
		"35=0\x01x":                    false,
		"\x0135=0\x01":                 false,
		"35\x01":                       false,
		"35=\x01":                      false,
		"=0\x01":                       false,
		"035=0\x01":                    false,
		"0=0\x01":                      false,
		"-1=0\x01":                     false,
		"10000=0\x01":                  false,
		"58=" + letters(257) + "\x01":  false,
		"8=0\x01":                      false,
		"9=0\x01":                      false,
		"10=0\x01":                     false,
		"8=FIX.4.4\x01":                false,
		"10=000\x01":                   false,
		"35=0\x018=0\x01":              false,
		"35=0\x019=0\x01":              false,
		"35=0\x0110=0\x01":             false,
		"8=0\x0135=0\x01":              false,
		"35=0\x019=0\x0134=2\x01":      false,
		"35=0\x0110=0\x0134=2\x01":     false,
		zero:                           false,
		strings.Repeat("1=a\x01", 100) + "9=a\x01": false,
		strings.Repeat("1=a\x01", 99) + "9=a\x01":  false,
		strings.Repeat("1=a\x01", 101):             false,
		bodyOf(8000)[:7999]:                        false,
	}
}

func TestP31Right(t *testing.T) {
	for body, ok := range bodies() {
		if mayBe(body) != ok {
			t.Errorf("the test's own reckoning of %.60q", body)
		}
		if Right([]byte(body)) != ok {
			t.Errorf("Right(%d bytes, %.60q): %v", len(body), body, !ok)
		}
	}
	if Right(nil) {
		t.Error("Right(nil)")
	}
	for _, many := range []int{8001, 8002, 10000, 1<<16 - 1, 1 << 16, 1<<16 + 1, 1 << 20} {
		for _, body := range []string{bodyOf(many), letters(many)} {
			if Right([]byte(body)) {
				t.Errorf("Right(%d bytes, %.10q)", many, body)
			}
		}
	}
	// Few enough fields, each of which may be, and one byte too many.
	long := strings.Repeat("58="+letters(196)+"\x01", 39) + "1=" + letters(198) + "\x01"
	if len(long) != 8001 || Right([]byte(long)) {
		t.Error("Right of", len(long))
	}
}

func TestP31RightEachTag(t *testing.T) {
	for tag := range 10002 {
		ok := tag >= 1 && tag <= 9999 && tag != 8 && tag != 9 && tag != 10
		field := strconv.Itoa(tag) + "=v\x01"
		for _, body := range []string{field, "35=0\x01" + field, field + "34=2\x01"} {
			if Right([]byte(body)) != ok {
				t.Errorf("Right(%q): %v", body, !ok)
			}
		}
	}
}

func TestP31RightEachLength(t *testing.T) {
	for many := 4; many <= 8000; many++ {
		if body := bodyOf(many); len(body) != many || !Right([]byte(body)) {
			t.Fatalf("Right(%d bytes)", many)
		}
	}
}

func TestP31Put(t *testing.T) {
	for _, c := range []struct{ body, frame string }{
		{"35=0\x01", zero},
		{"1=a\x01", small},
		{"35=0\x0134=2\x01", two},
		{"58=\x88\x01", none},
		{"58=\x91\x01", nine},
		{"58=\x87\x01", most},
		{"58=x8=FIX.4.4\x01", named},
	} {
		if b, e := Put([]byte(c.body)); string(b) != c.frame || e != api.OK {
			t.Errorf("Put(%q): %q %d", c.body, b, e)
		}
	}
	for body, ok := range bodies() {
		want, wantE := fitted(body), api.OK
		if !ok {
			want, wantE = "", api.ErrArg
		}
		if b, e := Put([]byte(body)); string(b) != want || e != wantE {
			t.Errorf("Put(%d bytes, %.60q): %.80q %d, want %d", len(body), body, b, e, wantE)
		}
	}
	for _, many := range []int{4, 9, 10, 99, 100, 999, 1000, 7999, 8000} {
		body := bodyOf(many)
		if b, e := Put([]byte(body)); string(b) != fitted(body) || e != api.OK {
			t.Errorf("Put(%d bytes): %.80q %d", many, b, e)
		}
	}
}

func TestP31PutErrors(t *testing.T) {
	for _, c := range []struct {
		body string
		e    api.Errno
	}{
		{"", api.ErrArg},
		{"a", api.ErrArg},
		{"8=0\x01", api.ErrArg},
		{letters(8000), api.ErrArg},
		{strings.Repeat("1=a\x01", 2000), api.ErrArg},
		{bodyOf(7996) + "9=a\x01", api.ErrArg},
		{letters(8001), api.ErrLong},
		{bodyOf(8001), api.ErrLong},
		{bodyOf(7997) + "9=a\x01", api.ErrLong},
		{bodyOf(7997) + "10=a", api.ErrLong},
		{strings.Repeat("1=a\x01", 2001), api.ErrLong},
		{letters(1 << 16), api.ErrLong},
		{letters(1<<16 + 1), api.ErrLong},
		{letters(1 << 20), api.ErrLong},
	} {
		if b, e := Put([]byte(c.body)); len(b) != 0 || e != c.e {
			t.Errorf("Put(%d bytes, %.20q): %.40q %d, want %d", len(c.body), c.body, b, e, c.e)
		}
	}
	if b, e := Put(nil); len(b) != 0 || e != api.ErrArg {
		t.Errorf("Put(nil): %q %d", b, e)
	}
}

// The sum has three digits, whatever it is.
func TestP31PutEachSum(t *testing.T) {
	seen := map[int]bool{}
	for one := 2; one < 256; one++ {
		for _, other := range []string{"a", "b", "c"} {
			body := "58=" + string([]byte{byte(one)}) + other + "\x01"
			b, e := Put([]byte(body))
			if string(b) != fitted(body) || e != api.OK {
				t.Errorf("Put(%q): %q %d", body, b, e)
			}
			expectNext(t, string(b), api.Frame, body, len(b))
			seen[sumOf(begin+"6\x01"+body)] = true
		}
	}
	if len(seen) != 256 {
		t.Error("sums seen:", len(seen))
	}
}

func TestP32Frame(t *testing.T) {
	for _, c := range []struct{ s, body string }{
		{zero, "35=0\x01"},
		{small, "1=a\x01"},
		{two, "35=0\x0134=2\x01"},
		{none, "58=\x88\x01"},
		{nine, "58=\x91\x01"},
		{most, "58=\x87\x01"},
		{named, "58=x8=FIX.4.4\x01"},
	} {
		for _, behind := range []string{"", "x", "\x01", "8", begin, zero, letters(20000)} {
			expectNext(t, c.s+behind, api.Frame, c.body, len(c.s))
			checkNext(t, c.s+behind)
		}
	}
}

// A stream that is cut anywhere in a frame needs more.
func TestP32Need(t *testing.T) {
	isNeed(t, "")
	if kind, body, many := Next(nil); kind != api.Need || len(body) != 0 || many != 0 {
		t.Error("Next(nil):", kind, body, many)
	}
	for _, s := range []string{zero, small, two, named, fitted(bodyOf(250))} {
		for cut := range len(s) {
			isNeed(t, s[:cut])
		}
	}
	for _, many := range []int{999, 1000, 7999, 8000} {
		s := fitted(bodyOf(many))
		for cut := range len(s) {
			expectNext(t, s[:cut], api.Need, "", 0)
		}
		expectNext(t, s, api.Frame, bodyOf(many), len(s))
	}
}

// What stands behind the header isn't looked at till all is there.
func TestP32NeedWhateverStandsThere(t *testing.T) {
	for _, c := range []struct {
		length string
		many   int
	}{{"1", 8}, {"5", 12}, {"10", 17}, {"800", 807}, {"8000", 8007}} {
		for _, junk := range []string{"x", "\x01", "8", "\xff", "9=", begin, zero, "10=000\x01"} {
			s := begin + c.length + "\x01" + strings.Repeat(junk, c.many)
			head := len(begin + c.length + "\x01")
			isNeed(t, s[:head])
			isNeed(t, s[:head+1])
			isNeed(t, s[:head+c.many-1])
			if kind, _, _ := Next([]byte(s[:head+c.many])); kind != api.Junk {
				t.Errorf("Next(%.60q): %d", s[:head+c.many], kind)
			}
			checkNext(t, s[:head+c.many])
		}
	}
}

// Each length is told of, right when its text is there: it needs more, or is
// junk at once.
func TestP32EachLength(t *testing.T) {
	for n := range 12000 {
		text := strconv.Itoa(n)
		ok := 1 <= n && n <= 8000
		for _, s := range []string{begin + text, begin + text + "\x01"} {
			kind, many := api.Need, 0
			if !ok {
				// An 8 at the end may be a beginning's.
				kind, many = api.Junk, len(strings.TrimSuffix(s, "8"))
			}
			expectNext(t, s, kind, "", many)
		}
	}
}

func TestP32LengthsText(t *testing.T) {
	for _, text := range []string{"", "1", "9", "10", "80", "90", "99", "800", "801", "900", "999", "1000", "7999", "8000"} {
		isNeed(t, begin+text)
	}
	for _, text := range []string{"1", "9", "10", "99", "100", "999", "1000", "7999", "8000"} {
		isNeed(t, begin+text+"\x01")
	}
	for _, text := range []string{
		"0", "00", "01", "05", "010", "0005", "00005", "08000", "8001", "8010", "8100", "8999", "9000", "9999", "10000", "12345", "80000", "99999",
		"65541", "4294967301", "18446744073709551621", "9223372036854775807", strings.Repeat("9", 20), strings.Repeat("9", 21), strings.Repeat("9", 20000), strings.Repeat("0", 20000),
		"-", "-1", "-5", "+5", "+", " 5", "5 ", "x", "5x", "50x", "500x", "5000x", "x5", "5x0", "5.", "5.0", "5,0", "0x5", "5e0", "5_0", "1_0", "\x00", "5\x00", "\xff", "5\xff", "5\n", "٣", "5=", "=5", ":", "/", "5:", "5/",
	} {
		isJunk(t, begin+text, len(begin+text))
		isJunk(t, begin+text+"\x01", len(begin+text)+1)
		isJunk(t, framed(text, "35=0\x01", "163"), len(framed(text, "35=0\x01", "163")))
	}
	isJunk(t, begin+"\x01", len(begin)+1)
	isJunk(t, begin+"\x01"+"35=0\x01", len(begin)+6)
	isJunk(t, framed("", "", "000"), len(begin)+8)
}

// Among and behind a length's digits each byte that is none is junk at once.
func TestP32EachByteInTheLength(t *testing.T) {
	for one := range 256 {
		sign := string([]byte{byte(one)})
		for _, digits := range []string{"", "5", "50", "500", "5000", "8000"} {
			for place := range len(digits) + 1 {
				s := begin + digits[:place] + sign + digits[place:]
				checkNext(t, s)
				checkNext(t, s+"\x01")
				checkNext(t, s+"\x0135=0\x0110=163\x01")
			}
		}
	}
}

// A length may be told that no body can have.
func TestP32LengthsThatNoBodyHas(t *testing.T) {
	for _, body := range []string{"a", "\x01", "8", "ab", "1=", "1=a", "=a\x01"} {
		s := fitted(body)
		for cut := range len(s) {
			isNeed(t, s[:cut])
		}
		isJunk(t, s, len(s))
	}
	for _, many := range []int{1, 2, 3, 5, 7999, 8000} {
		s := fitted(letters(many))
		isNeed(t, s[:len(s)-1])
		isJunk(t, s, len(s))
		isJunk(t, s+zero, len(s))
	}
}

// What has the length, but may not be a body, is no frame.
func TestP32BodiesThatMayNotBe(t *testing.T) {
	for body, ok := range bodies() {
		if ok || body == "" || strings.Contains(body, begin) {
			continue
		}
		s := fitted(body)
		isNeed(t, s[:len(s)-1])
		isJunk(t, s, len(s))
		isJunk(t, s+"8=FIX", len(s))
		isJunk(t, s+zero, len(s))
	}
	for _, body := range []string{zero, "58=a\x01" + zero, "35=0\x01" + begin + "5\x01"} {
		isJunk(t, fitted(body), strings.Index(fitted(body)[1:], begin)+1)
	}
}

func TestP32WrongSums(t *testing.T) {
	for sum := range 1000 {
		s := framed("5", "35=0\x01", fmt.Sprintf("%03d", sum))
		if sum == 163 {
			expectNext(t, s, api.Frame, "35=0\x01", len(s))
			continue
		}
		expectNext(t, s, api.Junk, "", len(s))
	}
	for _, c := range []struct{ body, sum string }{
		{"35=0\x01", "16"}, {"35=0\x01", "1"}, {"35=0\x01", ""}, {"35=0\x01", "1630"}, {"35=0\x01", "0163"}, {"35=0\x01", "419"}, {"35=0\x01", " 63"}, {"35=0\x01", "1 3"}, {"35=0\x01", "16x"}, {"35=0\x01", "+63"}, {"35=0\x01", "1\x013"}, {"35=0\x01", "xyz"},
		{"58=\x91\x01", "9"}, {"58=\x91\x01", "09"}, {"58=\x91\x01", "  9"}, {"58=\x91\x01", "00\t"}, {"58=\x91\x01", "+09"}, {"58=\x91\x01", "-09"}, {"58=\x91\x01", "9\x01\x01"}, {"58=\x91\x01", "265"}, {"58=\x91\x01", "521"},
		{"58=\x88\x01", "0"}, {"58=\x88\x01", "00"}, {"58=\x88\x01", "-00"}, {"58=\x88\x01", "256"}, {"58=\x88\x01", "\x00\x00\x00"},
	} {
		s := framed("5", c.body, c.sum)
		if len(c.sum) < 3 {
			isNeed(t, s)
			s += "xxx"
		}
		isJunk(t, s, len(s))
	}
}

// The sum takes in the header, too, and ends ahead of 10=.
func TestP32SumsOfAnotherPiece(t *testing.T) {
	body := "35=0\x01"
	head := begin + "5\x01"
	for _, piece := range []string{body, head, head + body + "10=", head + body[:4], head[1:] + body, begin + body} {
		s := framed("5", body, fmt.Sprintf("%03d", sumOf(piece)))
		isJunk(t, s, len(s))
	}
}

// A length that is not the body's.
func TestP32WrongLengths(t *testing.T) {
	body := "35=0\x0134=2\x01"
	for n := 1; n <= 10+7; n++ {
		length := strconv.Itoa(n)
		s := framed(length, body, fmt.Sprintf("%03d", sumOf(begin+length+"\x01"+body)))
		if n == 10 {
			expectNext(t, s, api.Frame, body, len(s))
			continue
		}
		if n > 10 {
			isNeed(t, s)
			s += letters(n - 10)
		}
		isJunk(t, s, len(s))
	}
}

// Each byte takes the place of each one of a frame, stands between each two,
// and each one is left out.
func TestP32EachByteInEachPlace(t *testing.T) {
	for _, s := range []string{zero, two + "8=FIX"} {
		for place := range len(s) {
			checkNext(t, s[:place]+s[place+1:])
			checkNext(t, s[:place]+s[place+1:]+zero)
			for b := range 256 {
				one := string([]byte{byte(b)})
				checkNext(t, s[:place]+one+s[place+1:])
				checkNext(t, s[:place]+one+s[place:])
				checkNext(t, s[:place]+one+s[place+1:]+zero)
			}
		}
	}
}

func TestP32Junk(t *testing.T) {
	for _, c := range []struct {
		s    string
		many int
	}{
		{"x", 1},
		{"\x00", 1},
		{"\x01", 1},
		{"=", 1},
		{"9", 1},
		{"xy", 2},
		{"x8", 1},
		{"88", 1},
		{"888", 2},
		{"8x", 2},
		{"8=8", 2},
		{"8=8=", 2},
		{"8=8=8", 4},
		{"8=FIX.4.5", 9},
		{"8=FIX.4.4\x018", 10},
		{"8=FIX.4.4\x0110=", 13},
		{"8=FIX.4.4\x019x", 12},
		{"8=FIX.4.4\x0198=FIX", 11},
		{"8=fix.4.4\x019=5\x01", 14},
		{"x8=FIX", 1},
		{"x8=FIX.", 1},
		{"x8=FIX.4.4\x019", 1},
		{"x" + begin, 1},
		{"x8=FIX.4.4\x019x", 13},
		{"xy8=FIXz", 8},
		{"xy8=FIXz8=", 8},
		{"8=FIX8=FIX", 5},
		{"x8=FIX" + zero, 6},
		{"x8=" + begin + "x", 3},
		{"x" + zero, 1},
		{"xyz" + zero, 3},
		{"xyz8" + zero, 4},
		{"8" + zero, 1},
		{"x" + begin + "x" + zero, 1},
		{begin + "x" + zero, 13},
		{begin + begin, 12},
		{begin + begin + begin, 12},
		{begin + zero, 12},
		{begin + "5" + zero, 13},
		{begin + "8=F", 12},
		{begin + "8", 0},
		{begin + "8=", 12},
		{begin + "88=", 13},
		{begin + "8000x8=F", 17},
		{begin + "8000" + begin, 16},
		{begin + "80008=", 16},
		{letters(20000), 20000},
		{letters(20000) + "8", 20000},
		{letters(20000) + zero, 20000},
		{strings.Repeat("8", 20000), 19999},
		{strings.Repeat("8=FIX.4.4\x01", 100), 990},
		{zero[1:] + zero, len(zero) - 1},
	} {
		if c.many == 0 {
			isNeed(t, c.s)
			continue
		}
		isJunk(t, c.s, c.many)
	}
}

// Junk with each number of the beginning's bytes in it, at its end, and ahead
// of another beginning.
func TestP32JunkAndBeginnings(t *testing.T) {
	for many := range len(begin) + 1 {
		first := begin[:many]
		whole := len("xy" + first + "z")
		if many == len(begin) {
			whole = 2
		}
		isJunk(t, "xy"+first, 2)
		isJunk(t, "xy"+first+"z", whole)
		isJunk(t, "xy"+first+"z"+zero, whole)
		isJunk(t, "xy"+first+"z"+begin+"x", whole)
		isJunk(t, "xy"+first+"z8=FI", whole)
		for place := range len(begin) {
			checkNext(t, first+begin[place:])
			checkNext(t, "x"+first+begin[place:]+first)
			checkNext(t, first+begin[place:]+zero)
		}
	}
}

// A beginning that stands in what has a frame's form but is none.
func TestP32BeginningsWithin(t *testing.T) {
	broken := strings.Replace(two, "166", "167", 1)
	for place := 1; place <= len(broken); place++ {
		isJunk(t, broken[:place]+zero+broken[place:], place)
	}
	inner := "58=a\x01" + begin + "5\x01"
	isJunk(t, fitted(inner), len(begin+"19\x0158=a\x01"))
	// One that is cut by the frame's end counts as well.
	isJunk(t, framed("5", "35=0\x01", "8=F"), len(begin+"5\x0135=0\x0110=8=F\x01"))
	isJunk(t, begin+"5\x0135=0\x0110=168=FI", len(begin+"5\x0135=0\x0110=16"))
	isJunk(t, begin+"5\x0135=0\x0110=1638", len(begin+"5\x0135=0\x0110=163"))
}

func TestP32BehindAFrame(t *testing.T) {
	s := []byte(zero + zero + "x" + two + "8=FIX8=F")
	for _, c := range []struct {
		kind int
		body string
		many int
	}{{api.Frame, "35=0\x01", len(zero)}, {api.Frame, "35=0\x01", len(zero)}, {api.Junk, "", 1}, {api.Frame, "35=0\x0134=2\x01", len(two)}, {api.Junk, "", 5}, {api.Need, "", 0}} {
		expectNext(t, string(s), c.kind, c.body, c.many)
		s = s[c.many:]
	}
	if string(s) != "8=F" {
		t.Errorf("left: %q", s)
	}
}

func TestP33PutIsFound(t *testing.T) {
	for body, ok := range bodies() {
		if !ok {
			continue
		}
		b, e := Put([]byte(body))
		if e != api.OK {
			t.Errorf("Put(%.60q): %d", body, e)
		}
		s := string(b)
		for _, behind := range []string{"", "x", "8", "8=FIX.4.4\x01", begin, s, "\x01", "10=000\x01", letters(10000)} {
			expectNext(t, s+behind, api.Frame, body, len(s))
		}
		for _, ahead := range []string{"x", "9=5\x01", "=FIX.4.4\x019=5\x01", "10=000\x01", "\x00\xff", letters(10000)} {
			expectNext(t, ahead+s, api.Junk, "", len(ahead))
			expectNext(t, ahead+s+"8=", api.Junk, "", len(ahead))
		}
	}
}

// Ahead of a frame each byte but an 8 is junk on its own.
func TestP33BehindEachByte(t *testing.T) {
	for b := range 256 {
		if b == '8' {
			continue
		}
		for many := 1; many < 20; many++ {
			ahead := strings.Repeat(string([]byte{byte(b)}), many)
			expectNext(t, ahead+zero, api.Junk, "", many)
			expectNext(t, ahead+two+zero, api.Junk, "", many)
		}
	}
}

func TestP33EachLengthIsFound(t *testing.T) {
	lengths := []int{7990, 7999, 8000}
	for many := 4; many < 300; many++ {
		lengths = append(lengths, many)
	}
	for _, many := range lengths {
		b, e := Put([]byte(bodyOf(many)))
		if e != api.OK {
			t.Errorf("Put(%d bytes): %d", many, e)
		}
		expectNext(t, string(b)+"8", api.Frame, bodyOf(many), len(b))
		expectNext(t, "x"+string(b), api.Junk, "", 1)
	}
}

func TestArgumentsAreLeftAlone(t *testing.T) {
	whole := []byte("35=0\x0134=2\x01 and behind")
	room := bytes.Clone(whole)
	b, e := Put(room[:10])
	Right(room[:10])
	Sum(room[:10])
	if e != api.OK || !bytes.Equal(room, whole) {
		t.Errorf("Put, Right or Sum: %d %q", e, room)
	}
	copy(room, strings.Repeat("x", len(room)))
	if string(b) != two {
		t.Errorf("what was put hangs on the body: %q", b)
	}
	room = []byte(two + zero)
	_, body, many := Next(room[:len(two)])
	if string(room) != two+zero {
		t.Errorf("Next: %q", room)
	}
	grown := append(body, "and more behind"...)
	copy(grown, "x")
	if string(room) != two+zero || many != len(two) {
		t.Errorf("the bytes hang on the body: %q", room)
	}
	_, body, _ = Next(room)
	clear(room)
	if string(body) != "35=0\x0134=2\x01" {
		t.Errorf("the body hangs on the bytes: %q", body)
	}
	for _, s := range []string{"x" + zero, "8=FI", begin + "x8"} {
		room = []byte(s + "behind")
		Next(slices.Clip(room[:len(s)]))
		Next(room[:len(s)])
		if string(room) != s+"behind" {
			t.Errorf("Next(%q): %q", s, room)
		}
	}
	b, _ = Put([]byte("35=0\x01"))
	clear(b)
	if again, _ := Put([]byte("35=0\x01")); string(again) != zero {
		t.Errorf("Put again: %q", again)
	}
}
