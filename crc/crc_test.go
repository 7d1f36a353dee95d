package crc

import (
	"bytes"
	"encoding/binary"
	"fmt"
	"hash/crc32"
	"math/rand/v2"
	"slices"
	"strings"
	"sync"
	"testing"

	"checkroll/api"
)

// most is how many bytes a record has at most.
const most = 4096

// wantSum reckons in the chapter's words, bit by bit, with no table and no
// number that wraps round.
func wantSum(b []byte) uint32 {
	sum := uint64(1)<<32 - 1
	for _, one := range b {
		sum ^= uint64(one)
		for range 8 {
			if half := sum / 2; sum == 2*half {
				sum = half
			} else {
				sum = half ^ 0xEDB88320
			}
		}
	}
	return uint32(uint64(1)<<32 - 1 - sum)
}

// wantPut says in the chapter's words what a record's bytes are. It sums by
// another hand's CRC-32, which TestP81Sum holds against wantSum.
func wantPut(record []byte) ([]byte, api.Errno) {
	if len(record) == 0 || len(record) > most {
		return nil, api.ErrArg
	}
	length := binary.BigEndian.AppendUint16(nil, uint16(len(record)))
	sum := crc32.ChecksumIEEE(slices.Concat(length, record))
	return slices.Concat(length, binary.BigEndian.AppendUint32(nil, sum), record), api.OK
}

// next is what Next answers, all what All does.
type next struct {
	record []byte
	many   int
	e      api.Errno
}

type all struct {
	records [][]byte
	many    int
}

// wantNext says in the chapter's words what stands at the beginning: the bytes
// of the record that would be there are put, and held against what is there.
func wantNext(b []byte) next {
	if len(b) < 6 {
		return next{e: api.ErrShort}
	}
	length := 256*int(b[0]) + int(b[1])
	if length == 0 || length > most {
		return next{e: api.ErrForm}
	}
	if len(b) < 6+length {
		return next{e: api.ErrShort}
	}
	if whole, _ := wantPut(b[6 : 6+length]); !bytes.Equal(whole, b[:6+length]) {
		return next{e: api.ErrSum}
	}
	return next{b[6 : 6+length], 6 + length, api.OK}
}

// wantAll tells the first record, and then what stands behind it.
func wantAll(b []byte) all {
	first := wantNext(b)
	if first.e != api.OK {
		return all{}
	}
	rest := wantAll(b[first.many:])
	return all{append([][]byte{first.record}, rest.records...), first.many + rest.many}
}

func (a next) same(b next) bool {
	return bytes.Equal(a.record, b.record) && a.many == b.many && a.e == b.e
}

func (a next) String() string {
	return fmt.Sprintf("%s, %d, error %d", show(a.record), a.many, a.e)
}

func (a all) same(b all) bool {
	return slices.EqualFunc(a.records, b.records, bytes.Equal) && a.many == b.many
}

func (a all) String() string {
	var b strings.Builder
	for _, record := range a.records {
		fmt.Fprintf(&b, "%s ", show(record))
	}
	return fmt.Sprintf("%d records: %s, %d", len(a.records), b.String(), a.many)
}

// show some bytes, the first of them alone where they are many.
func show(b []byte) string {
	return fmt.Sprintf("%d bytes %#x", len(b), b[:min(len(b), 24)])
}

// expectPut holds Put against what it should answer.
func expectPut(t *testing.T, record []byte) {
	t.Helper()
	want, wantE := wantPut(record)
	if got, e := Put(record); !bytes.Equal(got, want) || e != wantE {
		t.Fatalf("Put of %s\n got %s, error %d\nwant %s, error %d", show(record), show(got), e, show(want), wantE)
	}
}

// expectNext holds Next against what it should answer.
func expectNext(t *testing.T, b []byte, want next) {
	t.Helper()
	record, many, e := Next(b)
	if got := (next{record, many, e}); !got.same(want) {
		t.Fatalf("Next of %s\n got %s\nwant %s", show(b), got, want)
	}
}

// expectAll holds All against what it should answer.
func expectAll(t *testing.T, b []byte, want all) {
	t.Helper()
	records, many := All(b)
	if got := (all{records, many}); !got.same(want) {
		t.Fatalf("All of %s\n got %s\nwant %s", show(b), got, want)
	}
}

// put a record that may be.
func put(t *testing.T, record []byte) []byte {
	t.Helper()
	b, e := Put(record)
	if e != api.OK {
		t.Fatalf("Put of %s: error %d", show(record), e)
	}
	return b
}

// chance makes bytes that are the same each time.
func chance(seed uint64) *rand.Rand { return rand.New(rand.NewPCG(8, seed)) }

func some(r *rand.Rand, many int) []byte {
	b := make([]byte, many)
	for i := range b {
		b[i] = byte(r.Uint32())
	}
	return b
}

// turned is a copy with one bit turned.
func turned(b []byte, bit int) []byte {
	c := bytes.Clone(b)
	c[bit/8] ^= 1 << (bit % 8)
	return c
}

// patterns are records of some kinds of bytes.
func patterns(r *rand.Rand, many int) [][]byte {
	return [][]byte{
		make([]byte, many),
		bytes.Repeat([]byte{0xFF}, many),
		bytes.Repeat([]byte{0, 1}, many)[:many],
		some(r, many),
	}
}

func TestP81SumOfKnownBytes(t *testing.T) {
	for _, x := range []struct {
		b    string
		want uint32
	}{
		{"", 0},
		{"123456789", 0xCBF43926},
		{"\x00", 0xD202EF8D},
		{"\x01", 0xA505DF1B},
		{"\x80", 0x3FBA6CAD},
		{"\xff", 0xFF000000},
		{"a", 0xE8B7BE43},
		{"abc", 0x352441C2},
		{"The quick brown fox jumps over the lazy dog", 0x414FA339},
		{strings.Repeat("\x00", 4), 0x2144DF1C},
		{strings.Repeat("\xff", 4), 0xFFFFFFFF},
		{strings.Repeat("\x00", 32), 0x190A55AD},
		{strings.Repeat("\xff", 32), 0xFF6CAB0B},
	} {
		if got := Sum([]byte(x.b)); got != x.want {
			t.Errorf("Sum of %q: %#x, want %#x", x.b, got, x.want)
		}
		if got := wantSum([]byte(x.b)); got != x.want {
			t.Errorf("the test's own sum of %q: %#x, want %#x", x.b, got, x.want)
		}
	}
	if got := Sum(nil); got != 0 {
		t.Errorf("Sum of nil: %#x", got)
	}
}

func TestP81SumOfOneAndTwoBytes(t *testing.T) {
	for one := range 256 {
		b := []byte{byte(one)}
		if got, want := Sum(b), wantSum(b); got != want {
			t.Fatalf("Sum of %#x: %#x, want %#x", b, got, want)
		}
		for two := range 256 {
			b := []byte{byte(one), byte(two)}
			if got, want := Sum(b), wantSum(b); got != want {
				t.Fatalf("Sum of %#x: %#x, want %#x", b, got, want)
			}
		}
	}
}

func TestP81Sum(t *testing.T) {
	r := chance(1)
	lengths := []int{most - 1, most, most + 1, most + 2, 1 << 16, 1<<16 + 1, 100000}
	for many := range 600 {
		lengths = append(lengths, many)
	}
	for _, many := range lengths {
		for _, b := range patterns(r, many) {
			got, want := Sum(b), wantSum(b)
			if got != want {
				t.Fatalf("Sum of %s: %#x, want %#x", show(b), got, want)
			}
			if other := crc32.ChecksumIEEE(b); want != other {
				t.Fatalf("the test's own sum of %s: %#x, and %#x by another hand", show(b), want, other)
			}
		}
	}
}

// A sum begins anew each time, whoever sums at the same time.
func TestP81SumsAtTheSameTime(t *testing.T) {
	var wait sync.WaitGroup
	for at := range 16 {
		wait.Go(func() {
			r := chance(uint64(100 + at))
			for range 50 {
				b := some(r, r.IntN(300))
				if got, want := Sum(b), wantSum(b); got != want {
					t.Errorf("Sum of %s: %#x, want %#x", show(b), got, want)
					return
				}
			}
		})
	}
	wait.Wait()
}

func TestP81PutKnown(t *testing.T) {
	for _, x := range []struct{ record, want string }{
		{"\x00", "\x00\x01\xe6\x5a\xe8\x53\x00"},
		{"abc", "\x00\x03\x1e\xf2\xc0\x23abc"},
		{"123456789", "\x00\x09\xba\x6f\xb7\xae123456789"},
	} {
		got, e := Put([]byte(x.record))
		if e != api.OK || string(got) != x.want {
			t.Errorf("Put of %q: %q, error %d, want %q", x.record, got, e, x.want)
		}
		expectPut(t, []byte(x.record))
		expectNext(t, []byte(x.want), next{[]byte(x.record), len(x.want), api.OK})
	}
}

// The sum counts the length's bytes, both of them, ahead of the record's own.
func TestP81PutSumsItsLength(t *testing.T) {
	for _, many := range []int{1, 255, 256, 257, 511, 512, 3840, 4095, most} {
		record := some(chance(uint64(many)), many)
		b := put(t, record)
		if len(b) != 6+many {
			t.Fatalf("%d bytes of a record of %d", len(b), many)
		}
		if got := 256*int(b[0]) + int(b[1]); got != many {
			t.Errorf("length %d of a record of %d bytes", got, many)
		}
		want := wantSum(append([]byte{byte(many / 256), byte(many % 256)}, record...))
		for i := range 4 {
			if got := b[2+i]; got != byte(want>>(24-8*i)) {
				t.Errorf("record of %d bytes: byte %d of its sum is %#x, of %#x", many, i, got, want)
			}
		}
		if !bytes.Equal(b[6:], record) {
			t.Errorf("record of %d bytes isn't there as it was", many)
		}
	}
}

func TestP81PutEachLength(t *testing.T) {
	r := chance(2)
	bytesOf := some(r, 3*most)
	for many := range most + 50 {
		at := r.IntN(most)
		expectPut(t, bytesOf[at:at+many])
	}
	expectPut(t, nil)
	expectPut(t, []byte{})
	for _, b := range patterns(r, most) {
		expectPut(t, b)
	}
}

// Lengths that would be others in the two bytes of a length are too many, too.
func TestP81PutTooMany(t *testing.T) {
	for _, many := range []int{most + 1, 2 * most, 1<<16 - 1, 1 << 16, 1<<16 + 1, 1<<16 + most, 1 << 20, 1<<24 + 1} {
		if b, e := Put(make([]byte, many)); b != nil || e != api.ErrArg {
			t.Errorf("Put of %d bytes: %s, error %d", many, show(b), e)
		}
	}
	for _, record := range [][]byte{nil, {}, make([]byte, 0, 10)} {
		if b, e := Put(record); b != nil || e != api.ErrArg {
			t.Errorf("Put of no bytes: %s, error %d", show(b), e)
		}
	}
}

func TestP81NextKnown(t *testing.T) {
	short, form, sum := next{e: api.ErrShort}, next{e: api.ErrForm}, next{e: api.ErrSum}
	for _, x := range []struct {
		b    string
		want next
	}{
		// Fewer than six bytes come ahead of a length that may not be.
		{"", short},
		{"\x00", short},
		{"\x00\x00", short},
		{"\x00\x00\x00\x00\x00", short},
		{"\xff\xff\xff\xff\xff", short},
		{"\x00\x01\xe6\x5a\xe8", short},
		// A length that may not be comes ahead of a record that isn't there.
		{"\x00\x00\x00\x00\x00\x00", form},
		{"\x00\x00\xff\xff\x00\x00", form},
		{"\x00\x00\x41\xd9\x12\xff", form},
		{"\x10\x01\x00\x00\x00\x00", form},
		{"\x10\x01\x00\x00\x00\x00\x00", form},
		{"\x11\x00\x00\x00\x00\x00", form},
		{"\xff\xff\x00\x00\x00\x00", form},
		{"\x80\x01\xe6\x5a\xe8\x53\x00", form},
		{"\x10\x01" + strings.Repeat("\x00", 4+most), form},
		{"\x10\x01" + strings.Repeat("\x00", 4+most+1), form},
		{"\xff\xff" + strings.Repeat("\x00", 4+65535), form},
		// A record that isn't there to its end comes ahead of its sum.
		{"\x00\x01\xe6\x5a\xe8\x53", short},
		{"\x00\x01\x00\x00\x00\x00", short},
		{"\x00\x02\xe6\x5a\xe8\x53\x00", short},
		{"\x01\x00\xe6\x5a\xe8\x53\x00", short},
		{"\x10\x00\x00\x00\x00\x00", short},
		{"\x10\x00" + strings.Repeat("\x00", 4+most-1), short},
		// And its sum.
		{"\x00\x01\x00\x00\x00\x00\x00", sum},
		{"\x00\x01\xe6\x5a\xe8\x52\x00", sum},
		{"\x00\x01\xe6\x5a\xe8\x53\x01", sum},
		{"\x00\x01\x53\xe8\x5a\xe6\x00", sum},
		{"\x00\x01\xd2\x02\xef\x8d\x00", sum},
		{"\x00\x03\x35\x24\x41\xc2abc", sum},
		{"\x10\x00" + strings.Repeat("\x00", 4+most), sum},
		{"\x10\x00" + strings.Repeat("\x00", 4+most+1), sum},
		// What is there.
		{"\x00\x01\xe6\x5a\xe8\x53\x00", next{[]byte("\x00"), 7, api.OK}},
		{"\x00\x01\xe6\x5a\xe8\x53\x00\x00", next{[]byte("\x00"), 7, api.OK}},
		{"\x00\x03\x1e\xf2\xc0\x23abc", next{[]byte("abc"), 9, api.OK}},
		{"\x00\x03\x1e\xf2\xc0\x23abcd", next{[]byte("abc"), 9, api.OK}},
	} {
		expectNext(t, []byte(x.b), x.want)
		if want := wantNext([]byte(x.b)); !want.same(x.want) {
			t.Fatalf("the test's own Next of %q: %s, want %s", x.b, want, x.want)
		}
	}
	expectNext(t, nil, short)
}

// Each length that two bytes may say, with bytes up to its end, one fewer, one
// more, and none.
func TestP81NextEachLength(t *testing.T) {
	b := some(chance(3), 6+1<<16)
	for length := range 1 << 16 {
		binary.BigEndian.PutUint16(b, uint16(length))
		for _, many := range []int{6, 7, 5 + length, 6 + length, 7 + length} {
			want := next{e: api.ErrSum}
			switch {
			case many < 6:
				want.e = api.ErrShort
			case length < 1 || length > 4096:
				want.e = api.ErrForm
			case many < 6+length:
				want.e = api.ErrShort
			}
			// A sum takes its time; of many lengths some do.
			if want.e != api.ErrSum || length%16 < 2 {
				expectNext(t, b[:many], want)
			}
		}
	}
}

func TestP81NextEndsAtEachPlace(t *testing.T) {
	r := chance(4)
	for _, many := range []int{1, 2, 5, 6, 7, 250, 255, 256, 257, 262, 511, 512, 513} {
		b := append(put(t, some(r, many)), some(r, 8)...)
		for end := range len(b) + 1 {
			expectNext(t, b[:end], wantNext(b[:end]))
			if (end >= 6+many) != (wantNext(b[:end]).e == api.OK) {
				t.Fatalf("the test's own Next of %d bytes, of a record of %d", end, many)
			}
		}
	}
	for _, many := range []int{most - 1, most} {
		b := append(put(t, some(r, many)), 0, 0)
		for _, end := range []int{0, 1, 2, 5, 6, 7, 255, 256, 4000, 4 + many, 5 + many, 6 + many, 7 + many, 8 + many} {
			expectNext(t, b[:end], wantNext(b[:end]))
		}
	}
}

// All other sums than its own don't fit a record.
func TestP81NextOtherSums(t *testing.T) {
	r := chance(5)
	b := put(t, []byte("a record"))
	own := binary.BigEndian.Uint32(b[2:])
	sums := []uint32{0, 1<<32 - 1, ^own, own + 1, own - 1, own << 8, own >> 8, Sum([]byte("a record")), Sum(b[6:])}
	for range 10000 {
		sums = append(sums, r.Uint32())
	}
	for _, sum := range sums {
		if sum == own {
			continue
		}
		other := bytes.Clone(b)
		binary.BigEndian.PutUint32(other[2:], sum)
		expectNext(t, other, next{e: api.ErrSum})
	}
	for at := 2; at < 6; at++ {
		for one := range 256 {
			other := bytes.Clone(b)
			other[at] = byte(one)
			expectNext(t, other, wantNext(other))
		}
	}
}

// joined are the bytes of records, one behind the other, and where each ends.
func joined(t *testing.T, records [][]byte) ([]byte, []int) {
	t.Helper()
	var b []byte
	var ends []int
	for _, record := range records {
		b = append(b, put(t, record)...)
		ends = append(ends, len(b))
	}
	return b, ends
}

// someOf each length, as records.
func someOf(r *rand.Rand, lengths ...int) [][]byte {
	var l [][]byte
	for _, length := range lengths {
		l = append(l, some(r, length))
	}
	return l
}

func TestP82AllKnown(t *testing.T) {
	const first, second, third = "\x00\x01\xe6\x5a\xe8\x53\x00", "\x00\x03\x1e\xf2\xc0\x23abc", "\x00\x09\xba\x6f\xb7\xae123456789"
	for _, x := range []struct {
		b, records string
		many       int
	}{
		{"", "", 0},
		{"\x00", "", 0},
		{first, "\x00", 7},
		{first + first, "\x00|\x00", 14},
		{first + second + third, "\x00|abc|123456789", 31},
		{third + second + first, "123456789|abc|\x00", 31},
		{second + third[:14], "abc", 9},
		{second + "\x00\x00\x00\x00\x00\x00" + third, "abc", 9},
		{second + "\x00" + third, "abc", 9},
		{"\x00" + second + third, "", 0},
		{"\x00\x03\x1e\xf2\xc0\x23abd" + second + third, "", 0},
		{second + "\x00\x03\x1e\xf2\xc0\x23abd" + third, "abc", 9},
		{second + third + "\x00\x03\x1e\xf2\xc0\x23abd", "abc|123456789", 24},
		{second + "\x10\x01" + strings.Repeat("\x00", 5000) + third, "abc", 9},
	} {
		var records [][]byte
		if x.records != "" {
			records = bytes.Split([]byte(x.records), []byte("|"))
		}
		want := all{records, x.many}
		expectAll(t, []byte(x.b), want)
		if own := wantAll([]byte(x.b)); !own.same(want) {
			t.Fatalf("the test's own All of %q: %s, want %s", x.b, own, want)
		}
	}
	expectAll(t, nil, all{})
}

func TestP82AllOfMany(t *testing.T) {
	r := chance(6)
	for _, lengths := range [][]int{{1}, {most}, {most, most}, {1, most, 1}, {255, 256, 257}, {most, 1, most - 1, 2, 512}} {
		records := someOf(r, lengths...)
		b, _ := joined(t, records)
		expectAll(t, b, all{records, len(b)})
		expectAll(t, append(b, 0), all{records, len(b)})
	}
	var records [][]byte
	for i := range 3000 {
		records = append(records, some(r, 1+i%40))
	}
	b, _ := joined(t, records)
	expectAll(t, b, all{records, len(b)})
}

// A broken record is the first that isn't told, wherever it stands and however
// it is broken, and so is none behind it.
func TestP82AllWithABrokenOne(t *testing.T) {
	r := chance(7)
	records := someOf(r, 3, 1, 8, 300, 2, 5)
	b, ends := joined(t, records)
	for at := range records {
		begin := ends[at] - len(records[at]) - 6
		want := all{records[:at], begin}
		for bit := 8 * begin; bit < 8*ends[at]; bit++ {
			other := turned(b, bit)
			expectAll(t, other, want)
		}
		short := slices.Concat(b[:begin], b[begin+1:])
		expectAll(t, short, wantAll(short))
		for _, between := range []string{"\x00", "\x00\x00\x00\x00\x00\x00", "\x10\x01\x00\x00\x00\x00", "\x00\x01\x00\x00\x00\x00\x00"} {
			expectAll(t, slices.Concat(b[:begin], []byte(between), b[begin:]), want)
		}
	}
}

func TestP82AllByChance(t *testing.T) {
	r := chance(8)
	for range 3000 {
		var b []byte
		for range r.IntN(6) {
			one := put(t, some(r, 1+r.IntN(12)))
			switch r.IntN(8) {
			case 0:
				one = turned(one, r.IntN(8*len(one)))
			case 1:
				one = one[:r.IntN(len(one))]
			}
			b = append(b, one...)
		}
		b = append(b, some(r, r.IntN(3))...)
		expectAll(t, b, wantAll(b))
		expectNext(t, b, wantNext(b))
	}
}

// What was put is told as it was, whatever stands behind it.
func TestP83WhatWasPutIsTold(t *testing.T) {
	r := chance(9)
	for _, length := range []int{1, 2, 3, 5, 6, 7, 8, 100, 255, 256, 257, 511, 512, 1000, most - 1, most} {
		for _, record := range patterns(r, length) {
			b := put(t, record)
			want := next{record, 6 + length, api.OK}
			expectNext(t, b, want)
			expectAll(t, b, all{[][]byte{record}, len(b)})
			for _, behind := range [][]byte{{0}, {255}, some(r, 1), some(r, 300), make([]byte, 6), b} {
				expectNext(t, slices.Concat(b, behind), want)
			}
		}
	}
	for one := range 256 {
		record := []byte{byte(one)}
		expectNext(t, put(t, record), next{record, 7, api.OK})
	}
	// A record may be the bytes of records.
	inner := put(t, []byte("inner"))
	expectAll(t, put(t, inner), all{[][]byte{inner}, 6 + len(inner)})
}

func TestP83EachLengthIsTold(t *testing.T) {
	from := some(chance(10), most)
	for length := 1; length <= most; length++ {
		expectNext(t, put(t, from[:length]), next{from[:length], 6 + length, api.OK})
	}
}

// Of bytes that are cut the whole records are told, and what they take.
func TestP83CutAtEachPlace(t *testing.T) {
	r := chance(11)
	for range 6 {
		records := someOf(r, 1, 1+r.IntN(9), 2, 1+r.IntN(300), 6, 1)
		b, ends := joined(t, records)
		for end := range len(b) + 1 {
			whole := 0
			for whole < len(ends) && ends[whole] <= end {
				whole++
			}
			want := all{records: records[:whole]}
			if whole > 0 {
				want.many = ends[whole-1]
			}
			expectAll(t, b[:end], want)
		}
	}
}

// A record of which one bit was turned isn't told as it was, and, with these
// bytes, not at all.
func TestP83OneBitTurned(t *testing.T) {
	r := chance(12)
	for _, length := range []int{1, 2, 3, 16, 255, 256, 260} {
		for _, record := range patterns(r, length) {
			b := put(t, record)
			for bit := range 8 * len(b) {
				told, taken, e := Next(turned(b, bit))
				if e == api.OK && bytes.Equal(told, record) {
					t.Fatalf("record %s is told as it was with bit %d turned", show(record), bit)
				}
				if told != nil || taken != 0 || e == api.OK {
					t.Fatalf("record %s with bit %d turned: %s", show(record), bit, next{told, taken, e})
				}
			}
		}
	}
}

// A length of which a bit was turned may well be there in other bytes.
func TestP83OneBitOfTheLengthTurned(t *testing.T) {
	r := chance(13)
	for _, length := range []int{1, 2, 255, 256, 257, 2048, most} {
		record := some(r, length)
		b := put(t, record)
		long := append(bytes.Clone(b), some(r, 1<<16)...)
		for bit := range 16 {
			other := turned(long, bit)
			want := next{e: api.ErrSum}
			if wrong := binary.BigEndian.Uint16(other); wrong == 0 || wrong > most {
				want.e = api.ErrForm
			}
			expectNext(t, other, want)
		}
	}
}

// roomy is a copy of bytes with spare room on both sides, filled by a mark.
func roomy(b []byte) (whole, inner []byte) {
	whole = bytes.Repeat([]byte{0xA5}, len(b)+64)
	copy(whole[16:], b)
	return whole, whole[16 : 16+len(b)]
}

func TestArgumentsAreLeftAlone(t *testing.T) {
	r := chance(14)
	two, _ := joined(t, someOf(r, 30, 4))
	broken := turned(two, 8*33)
	for _, b := range [][]byte{{}, {7}, two, two[:38], broken, some(r, most), some(r, most+1), make([]byte, 20)} {
		whole, inner := roomy(b)
		ahead := bytes.Clone(whole)
		Sum(inner)
		Put(inner)
		Next(inner)
		All(inner)
		if !bytes.Equal(whole, ahead) {
			t.Fatalf("%s were changed, or their spare room", show(b))
		}
	}
}

// scribble over an answer, its spare room too.
func scribble(b []byte) {
	b = b[:cap(b)]
	for i := range b {
		b[i] ^= 0xFF
	}
}

func TestAnswersAreNew(t *testing.T) {
	r := chance(15)
	for _, length := range []int{1, 7, 8, 100, most} {
		record := some(r, length)
		whole, inner := roomy(record)
		ahead := bytes.Clone(whole)
		b := put(t, inner)
		kept := bytes.Clone(b)
		scribble(b)
		if !bytes.Equal(whole, ahead) {
			t.Fatalf("what Put answers shares memory with a record of %d bytes", length)
		}
		if again := put(t, inner); !bytes.Equal(again, kept) {
			t.Fatalf("what Put answers is kept for the next call, at %d bytes", length)
		}

		whole, inner = roomy(kept)
		ahead = bytes.Clone(whole)
		told, _, _ := Next(inner)
		scribble(told)
		if !bytes.Equal(whole, ahead) {
			t.Fatalf("what Next answers shares memory with the bytes of a record of %d", length)
		}
		expectNext(t, inner, next{record, 6 + length, api.OK})
	}
}

func TestAllsAnswersAreNew(t *testing.T) {
	records := someOf(chance(16), 1, 7, 30, 8, most, 2)
	b, _ := joined(t, records)
	whole, inner := roomy(b)
	ahead := bytes.Clone(whole)
	for at := range records {
		told, _ := All(inner)
		scribble(told[at])
		_ = append(told[at], "behind"...)
		if !bytes.Equal(whole, ahead) {
			t.Fatalf("record %d shares memory with what was handed in", at)
		}
		for other := range told {
			if other != at && !bytes.Equal(told[other], records[other]) {
				t.Fatalf("records %d and %d share memory", at, other)
			}
		}
		expectAll(t, inner, all{records, len(b)})
	}
}
