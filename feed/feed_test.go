package feed

import (
	"bytes"
	"fmt"
	"math/rand/v2"
	"slices"
	"strings"
	"testing"

	"checkroll/api"
	"checkroll/frame"
)

// begin, as chapter 3 writes it.
const begin = "8=FIX.4.4\x019="

// zero and its like are frames whose sums were reckoned by another program.
const (
	zero  = "8=FIX.4.4\x019=5\x0135=0\x0110=163\x01"
	small = "8=FIX.4.4\x019=4\x011=a\x0110=156\x01"
	two   = "8=FIX.4.4\x019=10\x0135=0\x0134=2\x0110=166\x01"
	named = "8=FIX.4.4\x019=14\x0158=x8=FIX.4.4\x0110=064\x01"
)

// Their bodies.
const (
	zeroBody  = "35=0\x01"
	smallBody = "1=a\x01"
	twoBody   = "35=0\x0134=2\x01"
	namedBody = "58=x8=FIX.4.4\x01"
)

// wrong is a frame but for its sum.
const wrong = "8=FIX.4.4\x019=5\x0135=0\x0110=164\x01"

// told is what becomes of a stream.
type told struct {
	kept   string
	bodies []string
	junk   int
}

func (a told) same(b told) bool {
	return a.kept == b.kept && slices.Equal(a.bodies, b.bodies) && a.junk == b.junk
}

func (a told) String() string {
	return fmt.Sprintf("kept %d bytes %.40q, %d bodies %.200q, junk %d", len(a.kept), a.kept, len(a.bodies), a.bodies, a.junk)
}

func texts(l [][]byte) []string {
	var all []string
	for _, b := range l {
		all = append(all, string(b))
	}
	return all
}

// expect tells what In has to answer to what is kept and a piece.
func expect(t *testing.T, kept, piece string, want told) {
	t.Helper()
	k, l, n, e := In([]byte(kept), []byte(piece))
	if got := (told{string(k), texts(l), n}); !got.same(want) || e != api.OK {
		t.Errorf("In(%d bytes %.40q, %d bytes %.80q): %v, error %d\nwant %v", len(kept), kept, len(piece), piece, got, e, want)
	}
}

// refused expects that a piece is refused: what is kept is handed back.
func refused(t *testing.T, kept, piece string) {
	t.Helper()
	k, l, n, e := In([]byte(kept), []byte(piece))
	if string(k) != kept || len(l) != 0 || n != 0 || e != api.ErrLong {
		t.Errorf("In(%d bytes, %d bytes): kept %d bytes, %d bodies, junk %d, error %d", len(kept), len(piece), len(k), len(l), n, e)
	}
}

// cutAnywhere expects the same of a stream in one piece, in each two pieces, in
// each two of which one was kept, and byte by byte.
func cutAnywhere(t *testing.T, s string, want told) {
	t.Helper()
	for cut := range len(s) + 1 {
		expect(t, s[:cut], s[cut:], want)
		if got := inPieces(t, []string{s[:cut], s[cut:]}); !got.same(want) {
			t.Errorf("%.80q, cut at %d: %v\nwant %v", s, cut, got, want)
		}
		if t.Failed() {
			return
		}
	}
	if got := inPieces(t, strings.Split(s, "")); !got.same(want) {
		t.Errorf("%.80q byte by byte: %v\nwant %v", s, got, want)
	}
}

// inPieces hands a stream in, piece by piece.
func inPieces(t *testing.T, pieces []string) told {
	t.Helper()
	var all told
	var kept []byte
	for _, piece := range pieces {
		k, l, n, e := In(kept, []byte(piece))
		if e != api.OK {
			t.Errorf("In(%d bytes, %d bytes): error %d", len(kept), len(piece), e)
		}
		if len(k) >= 1<<14 {
			t.Errorf("kept: %d bytes", len(k))
		}
		kept = k
		all.bodies = append(all.bodies, texts(l)...)
		all.junk += n
	}
	all.kept = string(kept)
	return all
}

// slowly takes what frame.Next takes, as the chapter says it.
func slowly(s string) told {
	var all told
	rest := []byte(s)
	for {
		kind, body, many := frame.Next(rest)
		if many == 0 {
			all.kept = string(rest)
			return all
		}
		if kind == api.Frame {
			all.bodies = append(all.bodies, string(body))
		} else {
			all.junk += many
		}
		rest = rest[many:]
	}
}

// bodyOf is a body that may be one, of many bytes: 4 to 8000.
func bodyOf(many int) string {
	var b strings.Builder
	for many-b.Len() > 250 {
		b.WriteString("58=" + strings.Repeat("a", 200) + "\x01")
	}
	b.WriteString("1=" + strings.Repeat("a", many-b.Len()-3) + "\x01")
	return b.String()
}

func framed(t *testing.T, body string) string {
	t.Helper()
	b, e := frame.Put([]byte(body))
	if e != api.OK {
		t.Fatalf("frame.Put(%d bytes): %d", len(body), e)
	}
	return string(b)
}

func TestP41Nothing(t *testing.T) {
	for _, none := range [][]byte{nil, {}} {
		k, l, n, e := In(none, none)
		if len(k) != 0 || len(l) != 0 || n != 0 || e != api.OK {
			t.Errorf("In of nothing: %q %q %d %d", k, l, n, e)
		}
		k, l, n, e = In(none, []byte(zero+"8=F"))
		if string(k) != "8=F" || !slices.Equal(texts(l), []string{zeroBody}) || n != 0 || e != api.OK {
			t.Errorf("nothing is kept: %q %q %d %d", k, l, n, e)
		}
		k, l, n, e = In([]byte("8=F"), none)
		if string(k) != "8=F" || len(l) != 0 || n != 0 || e != api.OK {
			t.Errorf("nothing comes: %q %q %d %d", k, l, n, e)
		}
	}
	expect(t, "x", "", told{junk: 1})
	expect(t, zero, "", told{bodies: []string{zeroBody}})
	expect(t, "", zero, told{bodies: []string{zeroBody}})
}

func TestP41Streams(t *testing.T) {
	for _, c := range []struct {
		s    string
		want told
	}{
		{"", told{}},
		{"x", told{junk: 1}},
		{"\x00", told{junk: 1}},
		{"junk", told{junk: 4}},
		{"8", told{kept: "8"}},
		{begin, told{kept: begin}},
		{begin + "5", told{kept: begin + "5"}},
		{begin + "5\x0135=", told{kept: begin + "5\x0135="}},
		{begin + "9999", told{junk: len(begin) + 4}},
		{zero, told{bodies: []string{zeroBody}}},
		{small, told{bodies: []string{smallBody}}},
		{two, told{bodies: []string{twoBody}}},
		{named, told{bodies: []string{namedBody}}},
		// Several frames, and junk ahead, between and behind.
		{zero + zero, told{bodies: []string{zeroBody, zeroBody}}},
		{zero + small + two, told{bodies: []string{zeroBody, smallBody, twoBody}}},
		{two + small + zero, told{bodies: []string{twoBody, smallBody, zeroBody}}},
		{"junk" + zero + small, told{bodies: []string{zeroBody, smallBody}, junk: 4}},
		{zero + "junk" + small, told{bodies: []string{zeroBody, smallBody}, junk: 4}},
		{zero + small + "junk", told{bodies: []string{zeroBody, smallBody}, junk: 4}},
		{"x" + zero + "yz" + small + "abc" + two + "\x01\x01\x01\x01", told{bodies: []string{zeroBody, smallBody, twoBody}, junk: 10}},
		{"\x01" + named + "8" + named, told{bodies: []string{namedBody, namedBody}, junk: 2}},
		// Junk that ends with the first bytes of a beginning.
		{"junk8", told{kept: "8", junk: 4}},
		{"junk8=FI", told{kept: "8=FI", junk: 4}},
		{"8=8=8", told{kept: "8", junk: 4}},
		{"junk" + begin, told{kept: begin, junk: 4}},
		{"junk8=" + zero, told{bodies: []string{zeroBody}, junk: 6}},
		{"junk8=FIx" + zero + "8=FI", told{kept: "8=FI", bodies: []string{zeroBody}, junk: 9}},
		{"8=FIX.4.4\x01" + zero, told{bodies: []string{zeroBody}, junk: 10}},
		{begin + zero, told{bodies: []string{zeroBody}, junk: 12}},
		{begin + "5" + zero, told{bodies: []string{zeroBody}, junk: 13}},
		{zero + "8=FIX.4.4\x01" + begin, told{kept: begin, bodies: []string{zeroBody}, junk: 10}},
		// A frame that is cut: what it lacks is taken from the next one.
		{zero[:len(zero)-1] + zero + zero, told{bodies: []string{zeroBody, zeroBody}, junk: len(zero) - 1}},
		{two[:20] + zero + small, told{bodies: []string{zeroBody, smallBody}, junk: 20}},
		{zero[1:] + zero, told{bodies: []string{zeroBody}, junk: len(zero) - 1}},
		// One that is told to be longer than all that stands behind it.
		{begin + "8000\x01" + zero + two, told{kept: begin + "8000\x01" + zero + two}},
		// A sum that is wrong, a frame right behind or within.
		{wrong, told{junk: len(wrong)}},
		{wrong + "x", told{junk: len(wrong) + 1}},
		{wrong + zero, told{bodies: []string{zeroBody}, junk: len(wrong)}},
		{wrong + "x" + zero, told{bodies: []string{zeroBody}, junk: len(wrong) + 1}},
		{wrong + wrong + zero + wrong, told{bodies: []string{zeroBody}, junk: 3 * len(wrong)}},
		{zero + wrong + small, told{bodies: []string{zeroBody, smallBody}, junk: len(wrong)}},
		{begin + "26\x01" + zero + "10=000\x01", told{bodies: []string{zeroBody}, junk: 15 + 7}},
		{begin + "36\x0158=abc\x01" + zero + "34=10=000\x01", told{bodies: []string{zeroBody}, junk: 15 + 7 + 3 + 7}},
		{begin + "5\x01" + zero, told{bodies: []string{zeroBody}, junk: 14}},
		{begin + "5\x0135=0\x0110=8=F", told{kept: begin + "5\x0135=0\x0110=8=F"}},
		{begin + "5\x0135=0\x0110=8=FI", told{kept: "8=FI", junk: 14 + 5 + 3}},
		{begin + "5\x0135=0\x0110=1638=FIX", told{kept: "8=FIX", junk: 14 + 5 + 6}},
		{begin + "5\x0135=0\x0110=16" + zero, told{bodies: []string{zeroBody}, junk: 14 + 5 + 5}},
	} {
		if got := slowly(c.s); !got.same(c.want) {
			t.Errorf("the test's own words of %q: %v, want %v", c.s, got, c.want)
		}
		cutAnywhere(t, c.s, c.want)
	}
}

// The bodies stand in the order of their frames, and each as often as it came.
func TestP41Order(t *testing.T) {
	var s string
	var want told
	for i := range 300 {
		body := fmt.Sprintf("35=0\x0134=%d\x01", (i*7)%100+1)
		s += framed(t, body)
		want.bodies = append(want.bodies, body)
		if i%3 == 0 {
			s += strings.Repeat("x", i%5)
			want.junk += i % 5
		}
	}
	expect(t, "", s, want)
	expect(t, s[:1<<13], s[1<<13:], want)
	s, want.kept = s+begin+"7\x01", begin+"7\x01"
	expect(t, "", s, want)
	expect(t, s[:1<<13], s[1<<13:], want)
}

// A piece behind each number of a frame's first bytes, and one that does not go
// on as they do.
func TestP41Kept(t *testing.T) {
	for cut := 1; cut < len(zero); cut++ {
		expect(t, "", zero[:cut], told{kept: zero[:cut]})
		expect(t, zero[:cut], "", told{kept: zero[:cut]})
		expect(t, zero[:cut], zero[cut:], told{bodies: []string{zeroBody}})
		expect(t, zero[:cut], zero[cut:]+two, told{bodies: []string{zeroBody, twoBody}})
		expect(t, zero[:cut], zero[cut:]+"x8=", told{kept: "8=", bodies: []string{zeroBody}, junk: 1})
		expect(t, "x"+zero[:cut], "", told{kept: zero[:cut], junk: 1})
		expect(t, two+zero[:cut], zero[cut:], told{bodies: []string{twoBody, zeroBody}})
		for next := cut + 1; next < len(zero); next++ {
			expect(t, zero[:cut], zero[cut:next], told{kept: zero[:next]})
		}
		strange := strings.Repeat("x", len(zero))
		expect(t, zero[:cut], strange+zero, told{bodies: []string{zeroBody}, junk: cut + len(strange)})
		if cut == len(begin)+1 {
			// A digit is a length's text; 5 and more digits are none.
			expect(t, zero[:cut], "0", told{kept: zero[:cut] + "0"})
			expect(t, zero[:cut], "0000", told{junk: cut + 4})
		}
	}
}

// The most that is ever kept.
func TestP41MostKept(t *testing.T) {
	body := bodyOf(8000)
	s := framed(t, body)
	if len(s) != 8024 {
		t.Fatal("the longest frame has", len(s))
	}
	most := s[:8023]
	expect(t, "", most, told{kept: most})
	expect(t, most, "", told{kept: most})
	expect(t, most, "\x01", told{bodies: []string{body}})
	expect(t, most, "x", told{junk: 8024})
	expect(t, s, s+most, told{kept: most, bodies: []string{body, body}})
	expect(t, s+most, s[8023:]+most, told{kept: most, bodies: []string{body, body}})
	for cut := 0; cut <= len(s); cut += 61 {
		expect(t, s[:cut], s[cut:], told{bodies: []string{body}})
	}
}

func TestP41LongKept(t *testing.T) {
	junk := func(many int) string { return strings.Repeat("x", many) }
	const most = 1<<14 - 1
	expect(t, junk(most), "", told{junk: most})
	expect(t, junk(most), "8=", told{kept: "8=", junk: most})
	expect(t, junk(most), zero, told{bodies: []string{zeroBody}, junk: most})
	expect(t, junk(most-1), zero, told{bodies: []string{zeroBody}, junk: most - 1})
	full := junk(most-len(zero)) + zero
	expect(t, full, zero+"8", told{kept: "8", bodies: []string{zeroBody, zeroBody}, junk: most - len(zero)})
	full = zero + junk(most-len(zero))
	expect(t, full, "", told{bodies: []string{zeroBody}, junk: most - len(zero)})
	for _, many := range []int{1 << 14, 1<<14 + 1, 1<<15 - 1, 1 << 15, 1 << 16, 1<<16 + 1, 1 << 18} {
		for _, piece := range []string{"", "x", zero, junk(1 << 16)} {
			refused(t, junk(many), piece)
			refused(t, junk(many-len(zero))+zero, piece)
			refused(t, zero+junk(many-len(zero)), piece)
		}
	}
}

func TestP41LongPieces(t *testing.T) {
	junk := func(many int) string { return strings.Repeat("x", many) }
	const most = 1 << 16
	expect(t, "", junk(most), told{junk: most})
	expect(t, "", junk(most-1), told{junk: most - 1})
	expect(t, junk(1<<14-1), junk(most), told{junk: most + 1<<14 - 1})
	expect(t, "8=", junk(most), told{junk: most + 2})
	expect(t, zero[:9], zero[9:]+junk(most-len(zero[9:])), told{bodies: []string{zeroBody}, junk: most - len(zero[9:])})
	expect(t, "", junk(most-len(zero))+zero, told{bodies: []string{zeroBody}, junk: most - len(zero)})
	expect(t, "", junk(most-5)+zero[:5], told{kept: zero[:5], junk: most - 5})
	for _, many := range []int{most + 1, most + 2, 1<<17 - 1, 1 << 17, 1 << 20} {
		for _, kept := range []string{"", "x", "8=FI", zero, two + "8=", junk(1<<14 - 1), junk(1 << 14), junk(1 << 17)} {
			refused(t, kept, junk(many))
			refused(t, kept, junk(many-len(zero))+zero)
			refused(t, kept, zero+junk(many-len(zero)))
		}
	}
	if k, l, n, e := In(nil, make([]byte, most+1)); len(k) != 0 || len(l) != 0 || n != 0 || e != api.ErrLong {
		t.Errorf("In(nil, %d bytes): %d %d %d %d", most+1, len(k), len(l), n, e)
	}
}

// Each byte, ahead of a frame, in it and behind it.
func TestP41EachByte(t *testing.T) {
	for b := range 256 {
		one := string([]byte{byte(b)})
		if one != "8" {
			expect(t, "", one+zero, told{bodies: []string{zeroBody}, junk: 1})
			expect(t, "", zero+one, told{bodies: []string{zeroBody}, junk: 1})
			expect(t, zero, one+zero, told{bodies: []string{zeroBody, zeroBody}, junk: 1})
		}
		for place := range len(two) {
			s := two[:place] + one + two[place+1:] + zero
			expect(t, "", s, slowly(s))
			expect(t, s[:place], s[place:], slowly(s))
			expect(t, s[:place+1], s[place+1:], slowly(s))
		}
	}
}

func TestP42Frames(t *testing.T) {
	for _, c := range []struct{ s, body string }{{zero, zeroBody}, {small, smallBody}, {two, twoBody}, {named, namedBody}} {
		want := told{bodies: []string{c.body}}
		for size := 1; size <= len(c.s); size++ {
			if got := inPieces(t, pieces(c.s, size)); !got.same(want) {
				t.Errorf("%q in pieces of %d: %v", c.s, size, got)
			}
		}
		for one := range len(c.s) + 1 {
			for other := one; other <= len(c.s); other++ {
				if got := inPieces(t, []string{c.s[:one], c.s[one:other], "", c.s[other:]}); !got.same(want) {
					t.Errorf("%q cut at %d and %d: %v", c.s, one, other, got)
				}
			}
		}
	}
}

// pieces of one size, but for the last.
func pieces(s string, size int) []string {
	var l []string
	for len(s) > size {
		l = append(l, s[:size])
		s = s[size:]
	}
	return append(l, s)
}

// someStream is made of frames, broken ones, junk, and what may become either.
func someStream(r *rand.Rand, parts int) string {
	choice := []string{
		zero, small, two, named, wrong, "x", "8", "8=", "8=FIX.4.4", "8=FIX.4.4\x01", begin, begin + "5", begin + "5\x01", begin + "40\x01", begin + "300\x01", begin + "8000",
		"9", "\x01", "10=", "10=163\x01", "35=0\x01", "88888", "x8=FIX.4.4\x019=9999", "0", "5\x01", "\x00\xff", zero[:20], two[:len(two)-1], two[3:],
	}
	var b strings.Builder
	for range parts {
		b.WriteString(choice[r.IntN(len(choice))])
	}
	return b.String()
}

// someCuts is a stream in pieces of many sizes, some of them empty.
func someCuts(r *rand.Rand, s string) []string {
	most := 1 + r.IntN(60)
	var l []string
	for len(s) > 0 {
		many := min(r.IntN(most+1), len(s))
		l = append(l, s[:many])
		s = s[many:]
	}
	return append(l, "")
}

func TestP42AnyPieces(t *testing.T) {
	r := rand.New(rand.NewPCG(4, 2))
	bodies, junk, kept := 0, 0, 0
	for range 1500 {
		s := someStream(r, 1+r.IntN(25))
		want := slowly(s)
		bodies, junk, kept = bodies+len(want.bodies), junk+want.junk, kept+len(want.kept)
		expect(t, "", s, want)
		for range 3 {
			cuts := someCuts(r, s)
			if got := inPieces(t, cuts); !got.same(want) {
				t.Fatalf("%q in pieces %q: %v\nwant %v", s, cuts, got, want)
			}
		}
		if got := inPieces(t, strings.Split(s, "")); !got.same(want) {
			t.Fatalf("%q byte by byte: %v\nwant %v", s, got, want)
		}
	}
	if bodies < 1000 || junk < 1000 || kept < 1000 {
		t.Error("the streams have too little of something:", bodies, junk, kept)
	}
}

// A stream that is longer than a piece may be, and than what may be kept.
func TestP42LongStreams(t *testing.T) {
	var b strings.Builder
	var want told
	for i := range 60 {
		body := bodyOf(4 + (i*1999)%7990)
		b.WriteString(framed(t, body))
		want.bodies = append(want.bodies, body)
		b.WriteString(strings.Repeat("x", (i*577)%3000))
		want.junk += (i * 577) % 3000
	}
	s := b.String() + begin + "8000\x01" + zero
	want.kept = begin + "8000\x01" + zero
	if len(s) < 3*(1<<16) {
		t.Fatal("the stream has", len(s))
	}
	for _, size := range []int{1 << 16, 1<<16 - 1, 1 << 14, 1<<14 - 1, 8024, 8023, 5000, 997, 100} {
		if got := inPieces(t, pieces(s, size)); !got.same(want) {
			t.Errorf("in pieces of %d: %v\nwant %v", size, got, want)
		}
	}
}

// grow writes over a slice's spare room.
func grow(b []byte) {
	b = b[:cap(b)]
	for i := range b {
		b[i] = '!'
	}
}

// withRoom is a slice of these bytes ahead of others.
func withRoom(s string) (part, whole []byte) {
	whole = []byte(s + "and the spare room behind it")
	return whole[:len(s)], whole
}

func TestArgumentsAreLeftAlone(t *testing.T) {
	for _, c := range []struct{ kept, piece string }{
		{"", ""},
		{"", zero},
		{zero[:9], zero[9:] + "x" + two + two + zero + "8=FIX"},
		{zero + two, ""},
		{zero + two + "8=FIX", ""},
		{"8=", "FIX.4.4\x01"},
		{"8=", "x"},
		{"", begin},
		{strings.Repeat("x", 1<<14), zero},
		{zero[:9], strings.Repeat("x", 1<<16+1)},
	} {
		kept, keptRoom := withRoom(c.kept)
		piece, pieceRoom := withRoom(c.piece)
		keptWas, pieceWas := bytes.Clone(keptRoom), bytes.Clone(pieceRoom)
		k, l, n, e := In(kept, piece)
		wantKept, want := string(k), texts(l)
		untouched := func(when string) {
			t.Helper()
			if !bytes.Equal(keptRoom, keptWas) || !bytes.Equal(pieceRoom, pieceWas) {
				t.Errorf("In(%.40q, %.40q): what was handed in is changed %s", c.kept, c.piece, when)
			}
		}
		untouched("by the call")
		again, others, m, f := In(kept, piece)
		if string(again) != wantKept || !slices.Equal(texts(others), want) || m != n || f != e {
			t.Errorf("In(%.40q, %.40q) again: %.40q %q %d %d", c.kept, c.piece, again, others, m, f)
		}
		clear(keptRoom)
		clear(pieceRoom)
		if string(k) != wantKept || !slices.Equal(texts(l), want) {
			t.Errorf("In(%.40q, %.40q): the answer hangs on what was handed in", c.kept, c.piece)
		}
		copy(keptRoom, keptWas)
		copy(pieceRoom, pieceWas)
		for i := range l {
			grow(l[i])
			untouched("by a body")
			if string(k) != wantKept || !slices.Equal(texts(l[i+1:]), want[i+1:]) {
				t.Errorf("In(%.40q, %.40q): what is told hangs on body %d", c.kept, c.piece, i)
			}
		}
		grow(k)
		untouched("by what is kept")
		if !slices.Equal(texts(others), want) || string(again) != wantKept {
			t.Errorf("In(%.40q, %.40q): one answer hangs on another", c.kept, c.piece)
		}
	}
	// What is kept grows over no body.
	k, l, _, _ := In(nil, []byte(zero+two+"8=FIX"))
	grow(k)
	if !slices.Equal(texts(l), []string{zeroBody, twoBody}) {
		t.Errorf("the bodies hang on what is kept: %q", l)
	}
}
