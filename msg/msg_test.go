package msg

import (
	"bytes"
	"fmt"
	"math"
	"math/big"
	"math/rand/v2"
	"regexp"
	"slices"
	"strconv"
	"strings"
	"testing"

	"checkroll/api"
	"checkroll/field"
)

// most is the greatest number that is small.
const most = int64(1) << 40

// exec is one that may be, of a kind.
func exec(kind int) api.Exec {
	x := api.Exec{ID: "e1", Order: "o1", Account: "acc", Symbol: "XYZ", Kind: kind, Buy: kind%2 == 0, Qty: 5, Price: 70, Time: 9}
	if refers(kind) {
		x.Ref = "r1"
	}
	return x
}

func refers(kind int) bool { return kind == api.Replace || kind == api.Bust || kind == api.Correct }

// said is a message, and its body as chapter 5 writes it (a | for a byte 1).
type said struct {
	m    api.Msg
	body string
}

func (s said) text() string { return strings.ReplaceAll(s.body, "|", "\x01") }

// saids has each kind of message and of execution.
func saids() []said {
	l := []said{
		{api.Msg{Kind: api.Logon, Seq: 1, A: 30}, "35=A|34=1|52=0|108=30|"},
		{api.Msg{Kind: api.Logon, Seq: 1, Time: 5, Copy: true}, "35=A|34=1|52=5|43=Y|108=0|"},
		{api.Msg{Kind: api.Beat, Seq: 2, Time: 7}, "35=0|34=2|52=7|"},
		{api.Msg{Kind: api.Beat, Seq: 2, Time: 7, Copy: true}, "35=0|34=2|52=7|43=Y|"},
		{api.Msg{Kind: api.Beat, Seq: 2, Time: 7, Text: "hi"}, "35=0|34=2|52=7|112=hi|"},
		{api.Msg{Kind: api.Beat, Seq: 2, Copy: true, Text: "43=Y"}, "35=0|34=2|52=0|43=Y|112=43=Y|"},
		{api.Msg{Kind: api.Test, Seq: 2, Text: "q"}, "35=1|34=2|52=0|112=q|"},
		{api.Msg{Kind: api.Test, Seq: 2, Copy: true, Text: "\x00=\xff\n"}, "35=1|34=2|52=0|43=Y|112=\x00=\xff\n|"},
		{api.Msg{Kind: api.Resend, Seq: 3, A: 4}, "35=2|34=3|52=0|7=4|16=0|"},
		{api.Msg{Kind: api.Resend, Seq: 3, A: 4, B: 2, Copy: true}, "35=2|34=3|52=0|43=Y|7=4|16=2|"},
		{api.Msg{Kind: api.Resend, Seq: most, Time: api.MaxNum, A: most, B: most}, "35=2|34=1099511627776|52=4611686018427387904|7=1099511627776|16=1099511627776|"},
		{api.Msg{Kind: api.Reset, Seq: 3, A: 9}, "35=4|34=3|52=0|36=9|"},
		{api.Msg{Kind: api.Reset, Seq: 3, A: 1, Gap: true}, "35=4|34=3|52=0|123=Y|36=1|"},
		{api.Msg{Kind: api.Reset, Seq: 3, Copy: true, A: 9, Gap: true}, "35=4|34=3|52=0|43=Y|123=Y|36=9|"},
		{api.Msg{Kind: api.Reset, Seq: 3, Copy: true, A: 9}, "35=4|34=3|52=0|43=Y|36=9|"},
		{api.Msg{Kind: api.Logout, Seq: 8}, "35=5|34=8|52=0|"},
		{api.Msg{Kind: api.Logout, Seq: 10, Time: 100, Copy: true}, "35=5|34=10|52=100|43=Y|"},
		{api.Msg{Kind: api.Report, Seq: 4, Time: 9, Exec: api.Exec{ID: "a", Order: "B", Account: "0", Symbol: "9", Kind: api.New}}, "35=8|34=4|52=9|17=a|11=B|1=0|55=9|54=2|150=1|32=0|31=0|60=0|"},
		{api.Msg{Kind: api.Report, Seq: 4, Exec: api.Exec{ID: "zZ", Ref: "abcdefghijklmnop", Order: "ABCDEFGHIJKLMNOP", Account: "0123456789012345", Symbol: "qrstuvwxyzQRSTUV", Kind: api.Bust, Buy: true, Qty: most, Price: most, Time: api.MaxNum}}, "35=8|34=4|52=0|17=zZ|19=abcdefghijklmnop|11=ABCDEFGHIJKLMNOP|1=0123456789012345|55=qrstuvwxyzQRSTUV|54=1|150=7|32=1099511627776|31=1099511627776|60=4611686018427387904|"},
	}
	for kind := api.New; kind <= api.Correct; kind++ {
		ref, side := "", "2"
		if refers(kind) {
			ref = "19=r1|"
		}
		if kind%2 == 0 {
			side = "1"
		}
		body := fmt.Sprintf("17=e1|%s11=o1|1=acc|55=XYZ|54=%s|150=%d|32=5|31=70|60=9|", ref, side, kind)
		l = append(l,
			said{api.Msg{Kind: api.Report, Seq: 4, Time: 10, Exec: exec(kind)}, "35=8|34=4|52=10|" + body},
			said{api.Msg{Kind: api.Report, Seq: 4, Time: 10, Copy: true, Exec: exec(kind)}, "35=8|34=4|52=10|43=Y|" + body})
	}
	return l
}

var formOfNames = regexp.MustCompile(`^[A-Za-z0-9]{1,16}\z`)

// within tells whether a number is from one number to another.
func within(n, from, to int64) bool { return from <= n && n <= to }

// wantExec says in the chapter's words whether an execution may be.
func wantExec(x api.Exec) bool {
	for _, name := range []string{x.ID, x.Order, x.Account, x.Symbol} {
		if !formOfNames.MatchString(name) {
			return false
		}
	}
	if refers(x.Kind) != formOfNames.MatchString(x.Ref) || !refers(x.Kind) && x.Ref != "" {
		return false
	}
	return within(int64(x.Kind), 1, 8) && within(x.Qty, 0, most) && within(x.Price, 0, most) && within(x.Time, 0, api.MaxNum)
}

// wantRight says in the chapter's words whether a message may be: field by
// field, what its least and its greatest value is, by the kind.
func wantRight(m api.Msg) bool {
	kinds := []struct {
		leastA, mostA, mostB  int64
		gap                   bool
		leastBytes, mostBytes int
		exec                  bool
	}{
		api.Logon:  {mostA: most},
		api.Beat:   {mostBytes: 64},
		api.Test:   {leastBytes: 1, mostBytes: 64},
		api.Resend: {leastA: 1, mostA: most, mostB: most},
		api.Reset:  {leastA: 1, mostA: most, gap: true},
		api.Logout: {},
		api.Report: {exec: true},
	}
	if m.Kind < 1 || m.Kind > 7 || !within(m.Seq, 1, most) || !within(m.Time, 0, api.MaxNum) {
		return false
	}
	k := kinds[m.Kind]
	if !within(m.A, k.leastA, k.mostA) || !within(m.B, 0, k.mostB) || m.Gap && !k.gap {
		return false
	}
	if len(m.Text) < k.leastBytes || len(m.Text) > k.mostBytes || strings.Count(m.Text, "\x01") > 0 {
		return false
	}
	if k.exec {
		return wantExec(m.Exec)
	}
	return m.Exec == api.Exec{}
}

// wantBody is the body of a message that may be, written by fmt.
func wantBody(m api.Msg) string {
	flag := func(on bool, text string) string {
		if on {
			return text
		}
		return ""
	}
	head := fmt.Sprintf("34=%d|52=%d|%s", m.Seq, m.Time, flag(m.Copy, "43=Y|"))
	x := m.Exec
	side := "54=2|"
	if x.Buy {
		side = "54=1|"
	}
	var body string
	switch m.Kind {
	case api.Logon:
		body = fmt.Sprintf("35=A|%s108=%d|", head, m.A)
	case api.Beat:
		body = "35=0|" + head + flag(m.Text != "", "112=?|")
	case api.Test:
		body = "35=1|" + head + "112=?|"
	case api.Resend:
		body = fmt.Sprintf("35=2|%s7=%d|16=%d|", head, m.A, m.B)
	case api.Reset:
		body = fmt.Sprintf("35=4|%s%s36=%d|", head, flag(m.Gap, "123=Y|"), m.A)
	case api.Logout:
		body = "35=5|" + head
	case api.Report:
		body = fmt.Sprintf("35=8|%s17=%s|%s11=%s|1=%s|55=%s|%s150=%d|32=%d|31=%d|60=%d|", head, x.ID, flag(x.Ref != "", "19="+x.Ref+"|"), x.Order, x.Account, x.Symbol, side, x.Kind, x.Qty, x.Price, x.Time)
	}
	body = strings.ReplaceAll(body, "|", "\x01")
	return strings.Replace(body, "?", m.Text, 1)
}

// form is the form of the bodies of a kind, as a pattern with a name for each
// part (a ; for a byte 1). How great its numbers may be stands beside it.
func form(kind, parts string) *regexp.Regexp {
	return regexp.MustCompile(strings.NewReplacer(
		";", `\x01`,
		"<NUM ", `(?P<`, "<NAME ", `(?P<`, "NUM>", `>0|[1-9][0-9]*)`, "NAME>", `>[A-Za-z0-9]{1,16})`,
	).Replace(`(?s)^35=` + kind + `;34=<NUM seqNUM>;52=<NUM timeNUM>;(?P<copy>43=Y;)?` + parts + `\z`))
}

// forms are those of each kind.
var forms = []*regexp.Regexp{
	api.Logon:  form("A", `108=<NUM aNUM>;`),
	api.Beat:   form("0", `(?:112=(?P<text>[^;]{1,64});)?`),
	api.Test:   form("1", `112=(?P<text>[^;]{1,64});`),
	api.Resend: form("2", `7=<NUM aNUM>;16=<NUM bNUM>;`),
	api.Reset:  form("4", `(?P<gap>123=Y;)?36=<NUM aNUM>;`),
	api.Logout: form("5", ``),
	api.Report: form("8", `17=<NAME idNAME>;(?:19=<NAME refNAME>;)?11=<NAME orderNAME>;1=<NAME accountNAME>;55=<NAME symbolNAME>;54=(?P<side>[12]);150=<NUM kindNUM>;32=<NUM qtyNUM>;31=<NUM priceNUM>;60=<NUM whenNUM>;`),
}

// wantRead reckons by a pattern what Read has to tell. The pattern counts
// runes, so each byte is made a rune of its own ahead of it.
func wantRead(body string) (api.Msg, api.Errno) {
	if _, e := field.Parse([]byte(body)); e != api.OK {
		return api.Msg{}, e
	}
	for kind, form := range forms {
		if kind == 0 {
			continue
		}
		found := form.FindStringSubmatch(widened(body))
		if found == nil {
			continue
		}
		m, ok := wantMessage(kind, func(name string) string {
			i := form.SubexpIndex(name)
			if i < 0 {
				return ""
			}
			return narrowed(found[i])
		})
		if ok && wantRight(m) {
			return m, api.OK
		}
	}
	return api.Msg{}, api.ErrForm
}

// wantMessage is the message of the parts that a pattern found. It tells false,
// if one of its numbers is too great for any.
func wantMessage(kind int, part func(string) string) (api.Msg, bool) {
	ok := true
	number := func(name string) int64 {
		if part(name) == "" {
			return 0
		}
		n, err := strconv.ParseInt(part(name), 10, 64)
		ok = ok && err == nil
		return n
	}
	x := api.Exec{ID: part("id"), Ref: part("ref"), Order: part("order"), Account: part("account"), Symbol: part("symbol"), Kind: int(number("kind")), Buy: part("side") == "1", Qty: number("qty"), Price: number("price"), Time: number("when")}
	m := api.Msg{Kind: kind, Seq: number("seq"), Time: number("time"), Copy: part("copy") != "", A: number("a"), B: number("b"), Gap: part("gap") != "", Text: part("text"), Exec: x}
	return m, ok
}

func widened(text string) string {
	var runes []rune
	for i := range len(text) {
		runes = append(runes, rune(text[i]))
	}
	return string(runes)
}

func narrowed(text string) string {
	var b []byte
	for _, r := range text {
		b = append(b, byte(r))
	}
	return string(b)
}

// checkRead holds Read against the pattern, and what it reads against Put.
func checkRead(t *testing.T, body string) {
	t.Helper()
	m, e := wantRead(body)
	n, f := Read([]byte(body))
	if n != m || f != e {
		t.Fatalf("Read(%.300q): %#v %d, want %#v %d", body, n, f, m, e)
	}
	if f != api.OK {
		return
	}
	if b, e := Put(n); e != api.OK || string(b) != body {
		t.Fatalf("Put(Read(%.300q)): %.300q %d", body, b, e)
	}
}

// checkMessage holds Right and Put against the chapter's words, and what Put
// says against Read.
func checkMessage(t *testing.T, m api.Msg) {
	t.Helper()
	want := wantRight(m)
	if ok := Right(m); ok != want {
		t.Fatalf("Right(%#v): %v", m, ok)
	}
	b, e := Put(m)
	if !want {
		if len(b) != 0 || e != api.ErrArg {
			t.Fatalf("Put(%#v): %q %d", m, b, e)
		}
		return
	}
	if body := wantBody(m); string(b) != body || e != api.OK {
		t.Fatalf("Put(%#v): %q %d, want %q", m, b, e, body)
	}
	if n, e := Read(b); n != m || e != api.OK {
		t.Fatalf("Read(Put(%#v)): %#v %d", m, n, e)
	}
}

func checkExec(t *testing.T, x api.Exec) {
	t.Helper()
	if ok := Exec(x); ok != wantExec(x) {
		t.Fatalf("Exec(%#v): %v", x, ok)
	}
	checkMessage(t, api.Msg{Kind: api.Report, Seq: 4, Time: 9, Exec: x})
}

func letters(many int) string { return strings.Repeat("a", many) }

func TestP51Name(t *testing.T) {
	for _, c := range []struct {
		s  string
		ok bool
	}{
		{"", false},
		{"a", true},
		{"Z", true},
		{"0", true},
		{"Aa09", true},
		{"AZaz09", true},
		{letters(15), true},
		{letters(16), true},
		{letters(17), false},
		{letters(1000), false},
		{"0123456789012345", true},
		{"01234567890123456", false},
		{"a-", false},
		{"-a", false},
		{"a b", false},
		{" ", false},
		{"a_b", false},
		{"a.b", false},
		{"a=b", false},
		{"a\x00", false},
		{"a\x01", false},
		{"a\n", false},
		{"é", false},
		{"aé", false},
		{"٣", false},
		{"９", false},
		{"Ａ", false},
		{"\u212a", false},
		{"\xff", false},
	} {
		if ok := Name(c.s); ok != c.ok {
			t.Errorf("Name(%.40q): %v", c.s, ok)
		}
	}
}

// Each byte at each place of a name of each length, and behind it.
func TestP51NameEachByte(t *testing.T) {
	for many := range 20 {
		if ok := Name(letters(many)); ok != (1 <= many && many <= 16) {
			t.Errorf("Name of %d letters: %v", many, ok)
		}
		for place := range many {
			for b := range 256 {
				name := letters(place) + string([]byte{byte(b)}) + letters(many-place-1)
				if ok := Name(name); ok != formOfNames.MatchString(name) {
					t.Errorf("Name(%q): %v", name, ok)
				}
			}
		}
	}
}

// someNames may be none, but for the first two.
func someNames() []string {
	return []string{"b", "ABCDEFGHIJKLMNOP", "", "ABCDEFGHIJKLMNOPQ", "-", "a-", "-a", "a\x01", "a\x00b", " ", "a b", "é", letters(300), "=", "a:", "Z[", "@A", "`a", "{", "/0"}
}

func edgesOfSmall() []int64 {
	return []int64{math.MinInt64, -most, -1, 0, 1, 2, most - 1, most, most + 1, 1 << 41, api.MaxNum, math.MaxInt64}
}

func edgesOfTime() []int64 {
	return []int64{math.MinInt64, -1, 0, 1, most + 1, api.MaxNum - 1, api.MaxNum, api.MaxNum + 1, math.MaxInt64}
}

func edgesOfKind() []int {
	return []int{math.MinInt, -1, 0, 1, 2, 3, 4, 5, 6, 7, 8, 9, 10, 255, 257, 1 << 16, 1<<32 + 2, math.MaxInt}
}

func TestP51Exec(t *testing.T) {
	for kind := api.New; kind <= api.Correct; kind++ {
		x := exec(kind)
		if !Exec(x) {
			t.Errorf("Exec(%#v): false", x)
		}
		turned := x
		turned.Buy = !x.Buy
		if !Exec(turned) {
			t.Errorf("Exec(%#v): false", turned)
		}
		x.Qty, x.Price, x.Time = 0, 0, 0
		if !Exec(x) {
			t.Errorf("Exec(%#v): false", x)
		}
		x.Qty, x.Price, x.Time = most, most, api.MaxNum
		if !Exec(x) {
			t.Errorf("Exec(%#v): false", x)
		}
		x.Ref = map[bool]string{true: "", false: "r1"}[refers(kind)]
		if Exec(x) {
			t.Errorf("Exec(%#v): true", x)
		}
	}
	for _, x := range []api.Exec{{}, {ID: "a", Order: "b", Account: "c", Symbol: "d"}, {Kind: api.New}, exec(0), exec(9), exec(-1)} {
		if Exec(x) {
			t.Errorf("Exec(%#v): true", x)
		}
	}
}

// Each part of an execution, of each kind, at its edges.
func TestP51ExecEachPart(t *testing.T) {
	for _, kind := range edgesOfKind() {
		checkExec(t, exec(kind))
		with := exec(kind)
		with.Ref = "r1"
		checkExec(t, with)
		for _, name := range someNames() {
			for part := range 5 {
				x := exec(kind)
				*[]*string{&x.ID, &x.Ref, &x.Order, &x.Account, &x.Symbol}[part] = name
				checkExec(t, x)
			}
		}
		for _, n := range edgesOfSmall() {
			x := exec(kind)
			x.Qty = n
			checkExec(t, x)
			x = exec(kind)
			x.Price = n
			checkExec(t, x)
			x.Qty = n
			checkExec(t, x)
		}
		for _, n := range edgesOfTime() {
			x := exec(kind)
			x.Time = n
			checkExec(t, x)
			x.Buy = !x.Buy
			checkExec(t, x)
		}
	}
}

func TestP51Put(t *testing.T) {
	for _, c := range saids() {
		if !Right(c.m) {
			t.Errorf("Right(%#v): false", c.m)
		}
		if b, e := Put(c.m); string(b) != c.text() || e != api.OK {
			t.Errorf("Put(%#v): %q %d, want %q", c.m, b, e, c.text())
		}
		if body := wantBody(c.m); body != c.text() {
			t.Errorf("the test's own words of %#v: %q", c.m, body)
		}
	}
}

func TestP51Wrong(t *testing.T) {
	bust := exec(api.Bust)
	bust.Ref = ""
	fill := exec(api.Fill)
	fill.Ref = "e0"
	report := exec(api.Fill)
	for _, m := range []api.Msg{
		{},
		{Seq: 1},
		{Kind: -1, Seq: 1},
		{Kind: 8, Seq: 1},
		{Kind: 8, Seq: 1, Exec: report},
		{Kind: api.Logon},
		{Kind: api.Logon, Seq: -1},
		{Kind: api.Logon, Seq: most + 1},
		{Kind: api.Logon, Seq: 1, Time: -1},
		{Kind: api.Logon, Seq: 1, Time: api.MaxNum + 1},
		{Kind: api.Logon, Seq: 1, A: -1},
		{Kind: api.Logon, Seq: 1, A: most + 1},
		{Kind: api.Logon, Seq: 1, A: 30, B: 1},
		{Kind: api.Logon, Seq: 1, A: 30, Gap: true},
		{Kind: api.Logon, Seq: 1, A: 30, Text: "t"},
		{Kind: api.Logon, Seq: 1, A: 30, Exec: report},
		{Kind: api.Beat, Seq: 1, A: 1},
		{Kind: api.Beat, Seq: 1, B: 1},
		{Kind: api.Beat, Seq: 1, Gap: true},
		{Kind: api.Beat, Seq: 1, Exec: report},
		{Kind: api.Beat, Seq: 1, Text: letters(65)},
		{Kind: api.Beat, Seq: 1, Text: "\x01"},
		{Kind: api.Test, Seq: 1},
		{Kind: api.Test, Seq: 1, Text: letters(65)},
		{Kind: api.Test, Seq: 1, Text: "a\x01"},
		{Kind: api.Test, Seq: 1, Text: "t", A: 1},
		{Kind: api.Test, Seq: 1, Text: "t", B: 1},
		{Kind: api.Test, Seq: 1, Text: "t", Gap: true},
		{Kind: api.Test, Seq: 1, Text: "t", Exec: report},
		{Kind: api.Resend, Seq: 1},
		{Kind: api.Resend, Seq: 1, B: 4},
		{Kind: api.Resend, Seq: 1, A: -1},
		{Kind: api.Resend, Seq: 1, A: most + 1},
		{Kind: api.Resend, Seq: 1, A: 1, B: -1},
		{Kind: api.Resend, Seq: 1, A: 1, B: most + 1},
		{Kind: api.Resend, Seq: 1, A: 1, Gap: true},
		{Kind: api.Resend, Seq: 1, A: 1, Text: "t"},
		{Kind: api.Resend, Seq: 1, A: 1, Exec: report},
		{Kind: api.Reset, Seq: 1},
		{Kind: api.Reset, Seq: 1, Gap: true},
		{Kind: api.Reset, Seq: 1, A: -1},
		{Kind: api.Reset, Seq: 1, A: most + 1},
		{Kind: api.Reset, Seq: 1, A: 1, B: 1},
		{Kind: api.Reset, Seq: 1, A: 1, Text: "t"},
		{Kind: api.Reset, Seq: 1, A: 1, Exec: report},
		{Kind: api.Logout, Seq: 1, A: 1},
		{Kind: api.Logout, Seq: 1, B: 1},
		{Kind: api.Logout, Seq: 1, Gap: true},
		{Kind: api.Logout, Seq: 1, Text: "t"},
		{Kind: api.Logout, Seq: 1, Exec: report},
		{Kind: api.Logout, Seq: 1, Exec: api.Exec{Buy: true}},
		{Kind: api.Logout, Seq: 1, Exec: api.Exec{Time: 1}},
		{Kind: api.Report, Seq: 1},
		{Kind: api.Report, Exec: report},
		{Kind: api.Report, Seq: 1, A: 1, Exec: report},
		{Kind: api.Report, Seq: 1, B: 1, Exec: report},
		{Kind: api.Report, Seq: 1, Gap: true, Exec: report},
		{Kind: api.Report, Seq: 1, Text: "t", Exec: report},
		{Kind: api.Report, Seq: 1, Exec: bust},
		{Kind: api.Report, Seq: 1, Exec: fill},
	} {
		if Right(m) {
			t.Errorf("Right(%#v): true", m)
		}
		if b, e := Put(m); len(b) != 0 || e != api.ErrArg {
			t.Errorf("Put(%#v): %q %d", m, b, e)
		}
	}
}

// someTexts are of each length at its edges, with a byte 1 at each end.
func someTexts() []string {
	return []string{"", "t", "ab", letters(63), letters(64), letters(65), letters(256), letters(300), "\x01", "t\x01", "\x01t", letters(63) + "\x01", letters(64) + "\x01", "\x00", "\x02", "\xff\xfe", "=", "112=t", strings.Repeat("é", 32), strings.Repeat("é", 32) + "a", strings.Repeat("é", 64), "0", "Y"}
}

// Each part of a message, of each kind, at its edges, whether its kind names it
// or not, beside what its kind asks for and beside nothing.
func TestP51EachPart(t *testing.T) {
	for _, kind := range edgesOfKind() {
		bases := []api.Msg{{Kind: kind, Seq: 3}, {Kind: kind, Seq: 3, Time: 8, Copy: true, A: 2, Text: "t", Exec: exec(api.Fill)}}
		for _, c := range saids() {
			if c.m.Kind == kind {
				bases = append(bases, c.m)
			}
		}
		for _, base := range bases {
			checkMessage(t, base)
			for _, n := range edgesOfSmall() {
				for part := range 3 {
					m := base
					*[]*int64{&m.Seq, &m.A, &m.B}[part] = n
					checkMessage(t, m)
				}
				m := base
				m.A, m.B = n, n
				checkMessage(t, m)
			}
			for _, n := range edgesOfTime() {
				m := base
				m.Time = n
				checkMessage(t, m)
			}
			for _, text := range someTexts() {
				m := base
				m.Text = text
				checkMessage(t, m)
			}
			for _, x := range []api.Exec{{}, exec(api.Fill), exec(api.Bust), exec(0), {ID: "a"}, {Ref: "a"}, {Order: "a"}, {Account: "a"}, {Symbol: "a"}, {Kind: 1}, {Buy: true}, {Qty: 1}, {Price: 1}, {Time: 1}} {
				m := base
				m.Exec = x
				checkMessage(t, m)
			}
			m := base
			m.Gap = !m.Gap
			checkMessage(t, m)
			m.Copy = !m.Copy
			checkMessage(t, m)
		}
	}
}

// All of some values of each part together.
func TestP51EveryPart(t *testing.T) {
	right := 0
	for i := range 10 * 3 * 2 * 2 * 4 * 3 * 2 * 4 * 3 {
		one := func(l ...int64) int64 {
			n := l[i%len(l)]
			i /= len(l)
			return n
		}
		m := api.Msg{Kind: int(one(-1, 0, 1, 2, 3, 4, 5, 6, 7, 8)), Seq: one(0, 1, most+1), Time: one(-1, 7), Copy: one(0, 1) == 1, A: one(-1, 0, 1, most), B: one(-1, 0, 2), Gap: one(0, 1) == 1}
		m.Text = []string{"", "t", letters(64), "\x01"}[one(0, 1, 2, 3)]
		m.Exec = []api.Exec{{}, exec(api.Replace), {Kind: api.Fill}}[one(0, 1, 2)]
		if wantRight(m) {
			right++
		}
		checkMessage(t, m)
	}
	if right < 20 {
		t.Error("too few may be:", right)
	}
}

func TestP51Read(t *testing.T) {
	for _, c := range saids() {
		if m, e := Read([]byte(c.text())); m != c.m || e != api.OK {
			t.Errorf("Read(%q): %#v %d, want %#v", c.text(), m, e, c.m)
		}
		if m, e := wantRead(c.text()); m != c.m || e != api.OK {
			t.Errorf("the test's own words of %q: %#v %d", c.text(), m, e)
		}
	}
}

func TestP51ReadErrors(t *testing.T) {
	hundred := strings.Repeat("1=a|", 100)
	for _, c := range []struct {
		body string
		e    api.Errno
	}{
		// What field.Parse refuses, whatever stands ahead.
		{"3", api.ErrShort},
		{"35=0", api.ErrShort},
		{"35=0|34=2|52=7", api.ErrShort},
		{"35=0|34=2|52=7|1", api.ErrShort},
		{"35=9|34=2|52=7|1", api.ErrShort},
		{"35=0|34=2|52=7||", api.ErrForm},
		{"35=0|34=|52=7|", api.ErrForm},
		{"35=0|34=|52=7", api.ErrForm},
		{"035=0|34=2|52=7|", api.ErrForm},
		{"35=0|34=2|52=7|10000=x|", api.ErrForm},
		{"35=1|34=2|52=7|112=" + letters(257) + "|", api.ErrForm},
		{hundred + "1=a|", api.ErrLong},
		{hundred + "1=a", api.ErrShort},
		{hundred + "1|", api.ErrForm},
		{hundred, api.ErrForm},
		{"35=0|34=2|52=7|" + strings.Repeat("1=a|", 98), api.ErrLong},
		{"35=0|34=2|52=7|" + strings.Repeat("1=a|", 97), api.ErrForm},
		{letters(1 << 16), api.ErrShort},
		{letters(1<<16 + 1), api.ErrLong},
		{"35=0|34=2|52=7|" + letters(1<<16), api.ErrLong},
		// What is no body.
		{"", api.ErrForm},
		{"1=a|", api.ErrForm},
		{"35=0|", api.ErrForm},
		{"35=0|34=2|", api.ErrForm},
		{"34=2|52=7|", api.ErrForm},
		{"35=0|52=7|", api.ErrForm},
		{"34=2|35=0|52=7|", api.ErrForm},
		{"35=0|52=7|34=2|", api.ErrForm},
		{"35=0|35=0|34=2|52=7|", api.ErrForm},
		{"35=0|34=2|34=2|52=7|", api.ErrForm},
		{"35=0|34=2|52=7|52=7|", api.ErrForm},
		{"35=0|34=2|52=7|99=x|", api.ErrForm},
		{"99=x|35=0|34=2|52=7|", api.ErrForm},
		{"35=3|34=2|52=7|", api.ErrForm},
		{"35=6|34=2|52=7|", api.ErrForm},
		{"35=9|34=2|52=7|", api.ErrForm},
		{"35=a|34=2|52=7|108=3|", api.ErrForm},
		{"35=A0|34=2|52=7|108=3|", api.ErrForm},
		{"35=01|34=2|52=7|", api.ErrForm},
		{"35=00|34=2|52=7|", api.ErrForm},
		{"35=-1|34=2|52=7|", api.ErrForm},
		{"34=2|52=7|108=3|", api.ErrForm},
		{"35=0|34=0|52=7|", api.ErrForm},
		{"35=0|34=02|52=7|", api.ErrForm},
		{"35=0|34=+2|52=7|", api.ErrForm},
		{"35=0|34=-2|52=7|", api.ErrForm},
		{"35=0|34= 2|52=7|", api.ErrForm},
		{"35=0|34=x|52=7|", api.ErrForm},
		{"35=0|34=1099511627776|52=7|", api.OK},
		{"35=0|34=1099511627777|52=7|", api.ErrForm},
		{"35=0|34=18446744073709551618|52=7|", api.ErrForm},
		{"35=0|34=2|52=-0|", api.ErrForm},
		{"35=0|34=2|52=00|", api.ErrForm},
		{"35=0|34=2|52=4611686018427387904|", api.OK},
		{"35=0|34=2|52=4611686018427387905|", api.ErrForm},
		{"35=0|34=2|52=7|43=N|", api.ErrForm},
		{"35=0|34=2|52=7|43=y|", api.ErrForm},
		{"35=0|34=2|52=7|43=YY|", api.ErrForm},
		{"35=0|34=2|43=Y|52=7|", api.ErrForm},
		{"35=0|43=Y|34=2|52=7|", api.ErrForm},
		{"35=0|34=2|52=7|43=Y|43=Y|", api.ErrForm},
		{"35=0|34=2|52=7|112=t|43=Y|", api.ErrForm},
		{"35=0|34=2|52=7|112=t|112=t|", api.ErrForm},
		{"35=0|34=2|52=7|112=" + letters(64) + "|", api.OK},
		{"35=0|34=2|52=7|112=" + letters(65) + "|", api.ErrForm},
		{"35=0|34=2|52=7|123=Y|", api.ErrForm},
		{"35=1|34=2|52=7|", api.ErrForm},
		{"35=1|34=2|52=7|112=" + letters(64) + "|", api.OK},
		{"35=1|34=2|52=7|112=" + letters(65) + "|", api.ErrForm},
		{"35=A|34=2|52=7|", api.ErrForm},
		{"35=A|34=2|52=7|108=1099511627777|", api.ErrForm},
		{"35=A|34=2|52=7|108=-1|", api.ErrForm},
		{"35=2|34=2|52=7|7=4|", api.ErrForm},
		{"35=2|34=2|52=7|16=0|", api.ErrForm},
		{"35=2|34=2|52=7|7=0|16=0|", api.ErrForm},
		{"35=2|34=2|52=7|16=0|7=4|", api.ErrForm},
		{"35=2|34=2|52=7|7=4|16=00|", api.ErrForm},
		{"35=4|34=2|52=7|36=0|", api.ErrForm},
		{"35=4|34=2|52=7|123=N|36=9|", api.ErrForm},
		{"35=4|34=2|52=7|36=9|123=Y|", api.ErrForm},
		{"35=4|34=2|52=7|123=Y|", api.ErrForm},
		{"35=4|34=2|52=7|123=Y|43=Y|36=9|", api.ErrForm},
		{"35=5|34=2|52=7|108=3|", api.ErrForm},
		{"35=5|34=2|52=7|112=t|", api.ErrForm},
		{"35=8|34=2|52=7|", api.ErrForm},
		{"35=8|34=2|52=7|17=e|11=o|1=a|55=X|54=0|150=2|32=5|31=7|60=9|", api.ErrForm},
		{"35=8|34=2|52=7|17=e|11=o|1=a|55=X|54=3|150=2|32=5|31=7|60=9|", api.ErrForm},
		{"35=8|34=2|52=7|17=e|11=o|1=a|55=X|54=01|150=2|32=5|31=7|60=9|", api.ErrForm},
		{"35=8|34=2|52=7|17=e|11=o|1=a|55=X|150=2|32=5|31=7|60=9|", api.ErrForm},
		{"35=8|34=2|52=7|17=e|11=o|1=a|55=X|54=1|150=0|32=5|31=7|60=9|", api.ErrForm},
		{"35=8|34=2|52=7|17=e|11=o|1=a|55=X|54=1|150=9|32=5|31=7|60=9|", api.ErrForm},
		{"35=8|34=2|52=7|17=e|11=o|1=a|55=X|54=1|150=02|32=5|31=7|60=9|", api.ErrForm},
		{"35=8|34=2|52=7|17=e|11=o|1=a|55=X|54=1|150=4294967298|32=5|31=7|60=9|", api.ErrForm},
		{"35=8|34=2|52=7|17=e|19=r|11=o|1=a|55=X|54=1|150=2|32=5|31=7|60=9|", api.ErrForm},
		{"35=8|34=2|52=7|17=e|11=o|1=a|55=X|54=1|150=7|32=5|31=7|60=9|", api.ErrForm},
		{"35=8|34=2|52=7|17=e|19=r-|11=o|1=a|55=X|54=1|150=7|32=5|31=7|60=9|", api.ErrForm},
		{"35=8|34=2|52=7|17=e|11=o|19=r|1=a|55=X|54=1|150=7|32=5|31=7|60=9|", api.ErrForm},
		{"35=8|34=2|52=7|19=r|17=e|11=o|1=a|55=X|54=1|150=7|32=5|31=7|60=9|", api.ErrForm},
		{"35=8|34=2|52=7|17=e|19=r|11=o|1=a|55=X|54=1|150=7|32=5|31=7|60=9|", api.OK},
		{"35=8|34=2|52=7|17=e|11=o|1=a|55=X|54=1|150=2|32=1099511627777|31=7|60=9|", api.ErrForm},
		{"35=8|34=2|52=7|17=e|11=o|1=a|55=X|54=1|150=2|32=5|31=1099511627777|60=9|", api.ErrForm},
		{"35=8|34=2|52=7|17=e|11=o|1=a|55=X|54=1|150=2|32=5|31=7|60=4611686018427387905|", api.ErrForm},
		{"35=8|34=2|52=7|17=e|11=o|1=abcdefghijklmnopq|55=X|54=1|150=2|32=5|31=7|60=9|", api.ErrForm},
		{"35=8|34=2|52=7|17=e|11=o|1=a|55=X.Y|54=1|150=2|32=5|31=7|60=9|", api.ErrForm},
		{"35=8|34=2|52=7|17=e|11=o|1=a|55=X|54=1|150=2|32=5|31=7|60=9|58=x|", api.ErrForm},
		{"8=FIX.4.4|9=5|35=0|10=163|", api.ErrForm},
	} {
		body := strings.ReplaceAll(c.body, "|", "\x01")
		m, e := Read([]byte(body))
		if e != c.e || e != api.OK && m != (api.Msg{}) {
			t.Errorf("Read(%d bytes, %.120q): %#v %d, want %d", len(body), body, m, e, c.e)
		}
	}
	if m, e := Read(nil); m != (api.Msg{}) || e != api.ErrForm {
		t.Errorf("Read(nil): %#v %d", m, e)
	}
}

// joined is a body of fields' texts.
func joined(parts ...[]string) string {
	var b strings.Builder
	for _, text := range slices.Concat(parts...) {
		b.WriteString(text + "\x01")
	}
	return b.String()
}

// strangers are fields that stand in one body or the other, or in none.
func strangers() []string {
	return []string{"35=0", "35=8", "34=2", "34=4", "52=7", "43=Y", "43=N", "108=30", "112=t", "7=4", "16=0", "123=Y", "123=N", "36=9", "17=e1", "19=r1", "11=o1", "1=acc", "55=XYZ", "54=1", "54=2", "150=2", "150=7", "32=5", "31=70", "60=9", "99=x", "9999=x", "8=FIX.4.4", "9=5", "10=163"}
}

// someValues take the place of a field's own.
func someValues() []string {
	return []string{"0", "1", "2", "3", "4", "5", "6", "7", "8", "9", "A", "B", "a", "Y", "N", "y", "YY", "", "00", "01", "05", "-0", "-1", "+5", " 5", "5 ", "5.0", "1e3", "0x5", "1099511627775", "1099511627776", "1099511627777", "4611686018427387904", "4611686018427387905", "9223372036854775808", "18446744073709551621", "4294967297", strings.Repeat("9", 21), "x-y", "é", "\x00", "=", "=5", letters(16), letters(17), letters(64), letters(65), letters(256), letters(257)}
}

// Each field of each body is taken out, doubled, put elsewhere, written with
// another tag or value, and has others put ahead of it and behind the last one.
func TestP51ReadEachField(t *testing.T) {
	for _, c := range saids() {
		parts := strings.Split(strings.TrimSuffix(c.text(), "\x01"), "\x01")
		if joined(parts) != c.text() {
			t.Fatal("the parts are others:", parts)
		}
		for i := range len(parts) + 1 {
			ahead, behind := parts[:i], parts[i:]
			checkRead(t, joined(ahead))
			checkRead(t, joined(behind))
			for _, stranger := range strangers() {
				checkRead(t, joined(ahead, []string{stranger}, behind))
			}
			if len(behind) == 0 {
				continue
			}
			own, behind := behind[0], behind[1:]
			tag, value, _ := strings.Cut(own, "=")
			checkRead(t, joined(ahead, behind))
			checkRead(t, joined(ahead, []string{own, own}, behind))
			checkRead(t, joined(ahead, behind, []string{own}))
			for j := range parts {
				rest := slices.Concat(ahead, behind)
				checkRead(t, joined(rest[:j], []string{own}, rest[j:]))
				other := slices.Clone(parts)
				other[i], other[j] = other[j], other[i]
				checkRead(t, joined(other))
			}
			for _, stranger := range strangers() {
				checkRead(t, joined(ahead, []string{stranger}, behind))
				name, _, _ := strings.Cut(stranger, "=")
				checkRead(t, joined(ahead, []string{name + "=" + value}, behind))
			}
			for _, other := range someValues() {
				checkRead(t, joined(ahead, []string{tag + "=" + other}, behind))
				checkRead(t, joined(ahead, []string{tag + "=" + other, own}, behind))
				checkRead(t, joined(ahead, []string{own, tag + "=" + other}, behind))
			}
			for _, other := range []string{"0" + own, "+" + own, " " + own, tag, tag + "=", tag + "==" + value, tag + "=0" + value, tag + "=" + value + "0", tag + "=" + value + " ", tag + " =" + value} {
				checkRead(t, joined(ahead, []string{other}, behind))
			}
		}
	}
}

// Each byte takes the place of each one of a body, and stands between each two
// of them; and the body is cut at each place.
func TestP51ReadEachByte(t *testing.T) {
	for _, c := range saids() {
		body := c.text()
		if len(body) > 120 {
			continue
		}
		for place := range len(body) + 1 {
			checkRead(t, body[:place])
			checkRead(t, body[place:])
			if place < len(body) {
				checkRead(t, body[:place]+body[place+1:])
			}
			for _, b := range []byte("\x00\x01\x02 +-/0123789:=@AFYZ[`ayz{\x7f\x80\xc3\xff") {
				checkRead(t, body[:place]+string([]byte{b})+body[place:])
				if place < len(body) {
					checkRead(t, body[:place]+string([]byte{b})+body[place+1:])
				}
			}
		}
	}
}

// Each byte of a text, and each value of the kind.
func TestP51ReadEachValue(t *testing.T) {
	for b := range 256 {
		one := string([]byte{byte(b)})
		checkRead(t, "35=1\x0134=2\x0152=7\x01112="+one+"\x01")
		checkRead(t, "35=0\x0134=2\x0152=7\x01112=a"+one+"b\x01")
		checkMessage(t, api.Msg{Kind: api.Test, Seq: 2, Text: one})
		checkMessage(t, api.Msg{Kind: api.Beat, Seq: 2, Text: "a" + one + "b"})
		for _, c := range saids() {
			checkRead(t, "35="+one+c.text()[len("35=A"):])
		}
	}
	for many := range 300 {
		for _, kind := range "01" {
			checkRead(t, "35="+string(kind)+"\x0134=2\x0152=7\x01112="+letters(many)+"\x01")
		}
	}
}

// someMessage has parts of which most may be.
func someMessage(r *rand.Rand) api.Msg {
	small := func() int64 { return edgesOfSmall()[2:9][r.IntN(7)] * int64(min(1, r.IntN(20))) }
	name := func() string {
		if r.IntN(40) == 0 {
			return someNames()[r.IntN(len(someNames()))]
		}
		const signs = "ABCXYZabcxyz0189"
		var b strings.Builder
		for range 1 + r.IntN(16) {
			b.WriteByte(signs[r.IntN(len(signs))])
		}
		return b.String()
	}
	m := api.Msg{Kind: 1 + r.IntN(7), Seq: r.Int64N(most) + 1, Time: r.Int64N(api.MaxNum), Copy: r.IntN(2) == 0}
	switch m.Kind {
	case api.Logon, api.Resend, api.Reset:
		m.A = max(small(), r.Int64N(2))
		if m.Kind == api.Resend {
			m.B = small()
		}
		m.Gap = m.Kind == api.Reset && r.IntN(2) == 0
	case api.Beat, api.Test:
		m.Text = someTexts()[r.IntN(len(someTexts()))]
	case api.Report:
		m.Exec = api.Exec{ID: name(), Order: name(), Account: name(), Symbol: name(), Kind: 1 + r.IntN(8), Buy: r.IntN(2) == 0, Qty: r.Int64N(most + 1), Price: r.Int64N(most + 1), Time: r.Int64N(api.MaxNum)}
		if refers(m.Exec.Kind) != (r.IntN(30) == 0) {
			m.Exec.Ref = name()
		}
	}
	return m
}

func TestP52SomeMessages(t *testing.T) {
	r := rand.New(rand.NewPCG(5, 2))
	right := make([]int, 8)
	for range 20000 {
		m := someMessage(r)
		if wantRight(m) {
			right[m.Kind]++
		}
		checkMessage(t, m)
	}
	for kind, many := range right {
		if kind > 0 && many < 500 {
			t.Errorf("too few of kind %d may be: %d", kind, many)
		}
	}
}

// No two messages have one body.
func TestP52OneBodyEach(t *testing.T) {
	r := rand.New(rand.NewPCG(5, 3))
	bodies := map[string]api.Msg{}
	check := func(m api.Msg) {
		b, e := Put(m)
		if e != api.OK {
			return
		}
		if other, ok := bodies[string(b)]; ok && other != m {
			t.Errorf("%q: %#v and %#v", b, m, other)
		}
		bodies[string(b)] = m
	}
	for _, c := range saids() {
		check(c.m)
	}
	for range 5000 {
		check(someMessage(r))
	}
	if len(bodies) < 2000 {
		t.Error("too few bodies:", len(bodies))
	}
}

// Bodies' fields are mixed, lost, doubled and written in another way.
func TestP52SomeBodies(t *testing.T) {
	r := rand.New(rand.NewPCG(5, 4))
	all := saids()
	read := 0
	for range 20000 {
		parts := strings.Split(strings.TrimSuffix(all[r.IntN(len(all))].text(), "\x01"), "\x01")
		others := strings.Split(strings.TrimSuffix(all[r.IntN(len(all))].text(), "\x01"), "\x01")
		for range r.IntN(3) {
			i := r.IntN(len(parts))
			tag, _, _ := strings.Cut(parts[i], "=")
			switch r.IntN(5) {
			case 0:
				parts[i] = tag + "=" + someValues()[r.IntN(len(someValues()))]
			case 1:
				parts[i] = others[r.IntN(len(others))]
			case 2:
				parts = slices.Insert(parts, i, others[r.IntN(len(others))])
			case 3:
				parts = append(parts[:i:i], others[min(i, len(others)):]...)
			case 4:
				parts = append(slices.Delete(parts, i, i+1), strangers()[r.IntN(len(strangers()))])
			}
		}
		body := joined(parts)
		if _, e := wantRead(body); e == api.OK {
			read++
		}
		checkRead(t, body)
	}
	if read < 5000 || read > 19000 {
		t.Error("too many or too few are read:", read)
	}
}

// Numbers about each edge are read as they are written, or not at all.
func TestP52Numbers(t *testing.T) {
	for _, edge := range []string{"0", "1099511627776", "2199023255552", "4294967296", "4611686018427387904", "9223372036854775808", "18446744073709551616"} {
		n, _ := new(big.Int).SetString(edge, 10)
		for more := int64(-12); more <= 12; more++ {
			text := new(big.Int).Add(n, big.NewInt(more)).String()
			for _, c := range saids() {
				parts := strings.Split(strings.TrimSuffix(c.text(), "\x01"), "\x01")
				for i := range parts {
					tag, _, _ := strings.Cut(parts[i], "=")
					other := slices.Clone(parts)
					other[i] = tag + "=" + text
					checkRead(t, joined(other))
				}
			}
		}
	}
}

func TestArgumentsAreLeftAlone(t *testing.T) {
	for _, c := range append(saids(), said{body: "35=0|34=2|"}, said{body: "35=0|34=2"}, said{body: ""}) {
		whole := []byte(c.text() + "and the spare room behind it")
		body, was := whole[:len(c.text())], bytes.Clone(whole)
		m, e := Read(body)
		if !bytes.Equal(whole, was) {
			t.Errorf("Read(%q): what was handed in is changed", c.text())
		}
		if again, f := Read(body); again != m || f != e {
			t.Errorf("Read(%q) again: %#v %d", c.text(), again, f)
		}
		for i := range whole {
			whole[i] = '!'
		}
		if m != c.m {
			t.Errorf("Read(%q): the answer hangs on what was handed in: %#v", c.text(), m)
		}
	}
}

func TestAnswersAreNew(t *testing.T) {
	for _, c := range saids() {
		m := c.m
		b, _ := Put(m)
		other, _ := Put(m)
		b = b[:cap(b)]
		for i := range b {
			b[i] = '!'
		}
		if string(other) != c.text() || m != c.m {
			t.Errorf("Put(%#v): one answer hangs on another: %q", m, other)
		}
		if again, e := Put(m); string(again) != c.text() || e != api.OK {
			t.Errorf("Put(%#v) again: %q %d", m, again, e)
		}
	}
}
