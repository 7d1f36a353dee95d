package journal

import (
	"bytes"
	"encoding/binary"
	"fmt"
	"hash/crc32"
	"math"
	"math/rand/v2"
	"slices"
	"strings"
	"sync"
	"testing"

	"checkroll/api"
	"checkroll/disk"
)

const (
	// mostFile is how many bytes a file has at most, mostRecord a record.
	mostFile   = 65536
	mostRecord = 4096
	// mostGen is the greatest generation.
	mostGen = int64(4611686018427387904)
)

// The functions are those that the chapter lists.
var (
	_ func(api.Disk) (api.Journal, []byte, [][]byte, api.Errno) = Open
	_ func(api.Journal, []byte) (api.Journal, api.Errno)        = Add
	_ func(api.Journal) (api.Journal, api.Errno)                = Sync
	_ func(api.Journal, []byte) (api.Journal, api.Errno)        = Rotate
	_ func(api.Journal, [2]int) api.Disk                        = Crash
)

// file is what lasts of a file and what may not, as texts.
type file struct{ safe, tail string }

func (f file) all() string { return f.safe + f.tail }

// plain is a journal as texts and numbers, which nobody can change.
type plain struct {
	files [2]file
	at    int
	gen   int64
}

func (p plain) texts() []string {
	return []string{p.files[0].safe, p.files[0].tail, p.files[1].safe, p.files[1].tail}
}

func (p plain) diskRight() bool {
	return len(p.files[0].all()) <= mostFile && len(p.files[1].all()) <= mostFile
}

func (p plain) right() bool {
	return p.diskRight() && (p.at == 0 || p.at == 1) && p.gen >= 1 && p.gen <= mostGen
}

// answer is what a call answers: a journal, and what Open tells beside it.
type answer struct {
	plain
	snapshot string
	entries  []string
	e        api.Errno
}

func (a answer) texts() []string {
	return append(append(a.plain.texts(), a.snapshot), a.entries...)
}

func (a answer) String() string {
	return fmt.Sprintf("At %d, Gen %d, error %d, %s", a.at, a.gen, a.e, show(a.texts()))
}

// record's bytes, by another hand's CRC-32.
func record(s string) string {
	length := binary.BigEndian.AppendUint16(nil, uint16(len(s)))
	sum := crc32.ChecksumIEEE(append(slices.Clone(length), s...))
	return string(binary.BigEndian.AppendUint32(length, sum)) + s
}

// headOf is the text of the first record of a file of a generation.
func headOf(gen uint64, snapshot string) string {
	return "G" + string(binary.BigEndian.AppendUint64(nil, gen)) + snapshot
}

// written is what stands in a file of a generation.
func written(gen uint64, snapshot string, entries ...string) string {
	all := record(headOf(gen, snapshot))
	for _, s := range entries {
		all += record(s)
	}
	return all
}

// recordsOf a file, and how many bytes they take: what would be the next one is
// put, and held against what is there.
func recordsOf(s string) ([]string, int) {
	var l []string
	taken := 0
	for len(s)-taken >= 6 {
		rest := s[taken:]
		length := 256*int(rest[0]) + int(rest[1])
		if length == 0 || length > mostRecord || len(rest) < 6+length || record(rest[6:6+length]) != rest[:6+length] {
			break
		}
		l = append(l, rest[6:6+length])
		taken += 6 + length
	}
	return l, taken
}

// genOf a file; false: it is one of none.
func genOf(s string) (int64, bool) {
	l, _ := recordsOf(s)
	if len(l) == 0 || len(l[0]) < 9 || l[0][0] != 'G' {
		return 0, false
	}
	gen := binary.BigEndian.Uint64([]byte(l[0][1:9]))
	if gen == 0 || gen > 1<<62 {
		return 0, false
	}
	return int64(gen), true
}

// wantOpen and its like say in the chapter's words what is answered.
func wantOpen(p plain) answer {
	if !p.diskRight() {
		return answer{e: api.ErrArg}
	}
	one, isOne := genOf(p.files[0].all())
	other, isOther := genOf(p.files[1].all())
	switch {
	case isOther && (!isOne || other > one):
		p.at, p.gen = 1, other
	case isOne:
		p.at, p.gen = 0, one
	default:
		p.at, p.gen = 0, 1
		p.files[0] = file{safe: written(1, "")}
		return answer{plain: p}
	}
	all := p.files[p.at].all()
	l, taken := recordsOf(all)
	p.files[p.at] = file{safe: all[:taken]}
	return answer{p, l[0][9:], l[1:], api.OK}
}

func wantAdd(p plain, entry string) answer {
	if !p.right() || len(entry) < 1 || len(entry) > 4000 {
		return answer{plain: p, e: api.ErrArg}
	}
	f := &p.files[p.at]
	if len(f.all())+len(record(entry)) > mostFile {
		return answer{plain: p, e: api.ErrFull}
	}
	f.tail += record(entry)
	return answer{plain: p}
}

func wantSync(p plain) answer {
	if !p.right() {
		return answer{plain: p, e: api.ErrArg}
	}
	p.files[p.at] = file{safe: p.files[p.at].all()}
	return answer{plain: p}
}

func wantRotate(p plain, snapshot string) answer {
	if !p.right() || len(snapshot) > 4000 {
		return answer{plain: p, e: api.ErrArg}
	}
	if p.gen == mostGen {
		return answer{plain: p, e: api.ErrOver}
	}
	p.gen++
	p.at = 1 - p.at
	p.files[p.at] = file{safe: written(uint64(p.gen), snapshot)}
	return answer{plain: p}
}

// wantCrash is a disk: a journal of which nothing else is told.
func wantCrash(p plain, keep [2]int) answer {
	p.at, p.gen = 0, 0
	if !p.diskRight() {
		return answer{plain: p}
	}
	for i, f := range p.files {
		kept := min(max(keep[i], 0), len(f.tail))
		p.files[i] = file{safe: f.safe + f.tail[:kept]}
	}
	return answer{plain: p}
}

// reply is what a call gave.
type reply struct {
	journal  api.Journal
	snapshot []byte
	entries  [][]byte
	e        api.Errno
}

func (r reply) slices() [][]byte {
	f := r.journal.Disk.Files
	l := [][]byte{f[0].Safe, f[0].Tail, f[1].Safe, f[1].Tail, r.snapshot}
	return append(l, r.entries...)
}

func (r reply) String() string {
	var texts []string
	for _, b := range r.slices() {
		texts = append(texts, string(b))
	}
	return fmt.Sprintf("At %d, Gen %d, error %d, %s", r.journal.At, r.journal.Gen, r.e, show(texts))
}

func (r reply) is(want answer) bool {
	same := func(b []byte, s string) bool { return string(b) == s }
	return r.journal.At == want.at && r.journal.Gen == want.gen && r.e == want.e &&
		slices.EqualFunc(r.slices(), want.texts(), same)
}

// show texts, the first bytes of them alone where they are many.
func show(texts []string) string {
	var b strings.Builder
	for _, s := range texts {
		fmt.Fprintf(&b, "[%d bytes %q]", len(s), s[:min(len(s), 24)])
	}
	return b.String()
}

func (p plain) String() string {
	return fmt.Sprintf("At %d, Gen %d, %s", p.at, p.gen, show(p.texts()))
}

// lent is memory that is handed in: a disk's four slices and some bytes, in a
// row, so that the spare room of each is where the next ones stand.
type lent struct {
	all     []byte
	journal api.Journal
	b       []byte
}

func lend(p plain, b string) lent {
	const amid = "what stands beside it"
	texts := append(p.texts(), b)
	l := lent{all: []byte(amid + strings.Join(texts, "") + amid)}
	l.journal.At, l.journal.Gen = p.at, p.gen
	from := len(amid)
	next := func() []byte {
		begin := from
		from += len(texts[0])
		texts = texts[1:]
		return l.all[begin:from]
	}
	for i := range l.journal.Disk.Files {
		l.journal.Disk.Files[i] = api.File{Safe: next(), Tail: next()}
	}
	l.b = next()
	return l
}

func scribble(b []byte, one byte) {
	for i := range b {
		b[i] = one
	}
}

func filled(b []byte, one byte) bool { return bytes.Count(b, []byte{one}) == len(b) }

// hold what a call answers against what it should answer. What is handed in
// stays as it is, its spare room too; the answer shares no memory with it, and
// no two slices of the answer share any.
func hold(t *testing.T, name string, p plain, b string, want answer, do func(j api.Journal, b []byte) reply) {
	t.Helper()
	in := lend(p, b)
	before := bytes.Clone(in.all)
	got := do(in.journal, in.b)
	if !got.is(want) {
		t.Fatalf("%s, the journal %v\n got %v\nwant %v", name, p, got, want)
	}
	if !bytes.Equal(in.all, before) {
		t.Fatalf("%s, the journal %v: what was handed in isn't as it was", name, p)
	}
	scribble(in.all, 0xEE)
	if !got.is(want) {
		t.Fatalf("%s, the journal %v: the answer shares memory with what was handed in", name, p)
	}
	for i, one := range got.slices() {
		scribble(one[:cap(one)], byte(i))
	}
	for i, one := range got.slices() {
		if !filled(one[:cap(one)], byte(i)) {
			t.Fatalf("%s, the journal %v: two slices of the answer share memory", name, p)
		}
	}
	if !filled(in.all, 0xEE) {
		t.Fatalf("%s, the journal %v: the answer's spare room is in what was handed in", name, p)
	}
}

func holdOpen(t *testing.T, p plain) {
	t.Helper()
	hold(t, "Open", p, "", wantOpen(p), func(j api.Journal, _ []byte) reply {
		j, snapshot, entries, e := Open(j.Disk)
		return reply{j, snapshot, entries, e}
	})
}

func holdAdd(t *testing.T, p plain, entry string) {
	t.Helper()
	name := fmt.Sprintf("Add of %d bytes", len(entry))
	hold(t, name, p, entry, wantAdd(p, entry), func(j api.Journal, b []byte) reply {
		j, e := Add(j, b)
		return reply{journal: j, e: e}
	})
}

func holdSync(t *testing.T, p plain) {
	t.Helper()
	hold(t, "Sync", p, "", wantSync(p), func(j api.Journal, _ []byte) reply {
		j, e := Sync(j)
		return reply{journal: j, e: e}
	})
}

func holdRotate(t *testing.T, p plain, snapshot string) {
	t.Helper()
	name := fmt.Sprintf("Rotate with %d bytes", len(snapshot))
	hold(t, name, p, snapshot, wantRotate(p, snapshot), func(j api.Journal, b []byte) reply {
		j, e := Rotate(j, b)
		return reply{journal: j, e: e}
	})
}

// holdCrash holds Crash against disk.Crash, too.
func holdCrash(t *testing.T, p plain, keep [2]int) {
	t.Helper()
	name := fmt.Sprintf("Crash keeping %d", keep)
	hold(t, name, p, "", wantCrash(p, keep), func(j api.Journal, _ []byte) reply {
		got := reply{journal: api.Journal{Disk: Crash(j, keep)}}
		other := reply{journal: api.Journal{Disk: disk.Crash(j.Disk, keep)}}
		if !slices.EqualFunc(got.slices(), other.slices(), bytes.Equal) {
			t.Fatalf("%s, the journal %v: it isn't disk.Crash", name, p)
		}
		return got
	})
}

// expect a journal and an error that are known.
func expect(t *testing.T, name string, j api.Journal, e api.Errno, want plain, wantE api.Errno) {
	t.Helper()
	if got := (reply{journal: j, e: e}); !got.is(answer{plain: want, e: wantE}) {
		t.Errorf("%s\n got %v\nwant %v", name, got, answer{plain: want, e: wantE})
	}
}

// expectOpen what is known to be opened.
func expectOpen(t *testing.T, name string, d api.Disk, want answer) {
	t.Helper()
	j, snapshot, entries, e := Open(d)
	if got := (reply{j, snapshot, entries, e}); !got.is(want) {
		t.Errorf("%s\n got %v\nwant %v", name, got, want)
	}
}

// many bytes that are told apart by where they stand.
func many(n int) string {
	const from = "0123456789abcdefghijklmnopqrstuvwxyzABCDEFGHIJKLMNOPQRSTUVWXYZ+"
	return strings.Repeat(from, n/len(from)+1)[:n]
}

// fileOf so many bytes that last, and so many that may not.
func fileOf(safe, tail int) file {
	s := many(safe + tail)
	return file{s[:safe], s[safe:]}
}

// splits of a file's bytes, in what lasts and what may not.
func splits(s string) []file {
	var l []file
	for _, n := range []int{len(s), 0, min(1, len(s)), max(len(s)-1, 0), len(s) / 2} {
		l = append(l, file{s[:n], s[n:]})
	}
	return l
}

// entriesUpTo so many bytes in all, records and heads counted in, behind a head
// of the first generation with no snapshot.
func entriesUpTo(all int) []string {
	var l []string
	left := all - len(written(1, ""))
	for left > 4006+7 {
		l = append(l, many(4000))
		left -= 4006
	}
	if left > 4006 {
		l = append(l, many(left-6-7))
		left = 7
	}
	return append(l, many(left-6))
}

// diskOf two files that last whole.
func diskOf(one, other string) plain {
	return plain{files: [2]file{{safe: one}, {safe: other}}}
}

// Bytes as they stand on a disk, written out by hand: the first generation with
// no snapshot, the second one with the snapshot snap, and the entry a.
const (
	bytesFirst  = "\x00\x09\x5a\x66\xc4\x7eG\x00\x00\x00\x00\x00\x00\x00\x01"
	bytesSecond = "\x00\x0d\xcd\x37\x75\xadG\x00\x00\x00\x00\x00\x00\x00\x02snap"
	bytesA      = "\x00\x01\xdc\xef\xb9\x9d" + "a"
)

// The tests' own writing is held against these bytes first.
func TestP101Bytes(t *testing.T) {
	for _, x := range []struct{ got, want string }{
		{written(1, ""), bytesFirst},
		{written(2, "snap"), bytesSecond},
		{record("a"), bytesA},
		{written(2, "snap", "a", "a"), bytesSecond + bytesA + bytesA},
	} {
		if x.got != x.want {
			t.Fatalf("the tests' own bytes: %q, want %q", x.got, x.want)
		}
	}
	j, _, _, e := Open(api.Disk{})
	expect(t, "Open", j, e, plain{[2]file{{safe: bytesFirst}, {}}, 0, 1}, api.OK)
	j, e = Add(j, []byte("a"))
	expect(t, "Add", j, e, plain{[2]file{{bytesFirst, bytesA}, {}}, 0, 1}, api.OK)
	j, e = Rotate(j, []byte("snap"))
	expect(t, "Rotate", j, e, plain{[2]file{{bytesFirst, bytesA}, {safe: bytesSecond}}, 1, 2}, api.OK)
	j, e = Add(j, []byte("a"))
	expect(t, "Add", j, e, plain{[2]file{{bytesFirst, bytesA}, {bytesSecond, bytesA}}, 1, 2}, api.OK)
	j, e = Sync(j)
	expect(t, "Sync", j, e, plain{[2]file{{bytesFirst, bytesA}, {safe: bytesSecond + bytesA}}, 1, 2}, api.OK)
}

func TestP101Example(t *testing.T) {
	j, snapshot, entries, e := Open(api.Disk{})
	if e != api.OK || len(snapshot) != 0 || len(entries) != 0 {
		t.Fatalf("Open: %q, %q, error %d", snapshot, entries, e)
	}
	for _, do := range []func() (api.Journal, api.Errno){
		func() (api.Journal, api.Errno) { return Add(j, []byte("a")) },
		func() (api.Journal, api.Errno) { return Sync(j) },
		func() (api.Journal, api.Errno) { return Add(j, []byte("b")) },
	} {
		if j, e = do(); e != api.OK {
			t.Fatalf("error %d", e)
		}
	}
	j, snapshot, entries, e = Open(Crash(j, [2]int{3, 0}))
	if e != api.OK || j.At != 0 || j.Gen != 1 || len(snapshot) != 0 || len(entries) != 1 || string(entries[0]) != "a" {
		t.Errorf("Open: %v", reply{j, snapshot, entries, e})
	}
	if got := disk.Read(j.Disk, 0); string(got) != bytesFirst+bytesA || len(j.Disk.Files[0].Tail) != 0 {
		t.Errorf("what stands there: %q", got)
	}
}

func TestP101Known(t *testing.T) {
	one := written(3, "one", "a", "bc")
	two := written(4, "two", "d")
	begun := written(1, "")
	for _, x := range []struct {
		name     string
		files    [2]file
		want     [2]file
		at       int
		gen      int64
		snapshot string
		entries  []string
	}{
		{"an empty disk", [2]file{}, [2]file{{safe: begun}, {}}, 0, 1, "", nil},
		{"file 0 alone", [2]file{{one, ""}, {}}, [2]file{{one, ""}, {}}, 0, 3, "one", []string{"a", "bc"}},
		{"file 1 alone", [2]file{{}, {one, ""}}, [2]file{{}, {one, ""}}, 1, 3, "one", []string{"a", "bc"}},
		{"file 1 is greater", [2]file{{one, ""}, {two, ""}}, [2]file{{one, ""}, {two, ""}}, 1, 4, "two", []string{"d"}},
		{"file 0 is greater", [2]file{{two, ""}, {one, ""}}, [2]file{{two, ""}, {one, ""}}, 0, 4, "two", []string{"d"}},
		{"two alike", [2]file{{one, ""}, {one, ""}}, [2]file{{one, ""}, {one, ""}}, 0, 3, "one", []string{"a", "bc"}},
		{"two of one generation", [2]file{{two, ""}, {written(4, "", "x"), ""}},
			[2]file{{two, ""}, {written(4, "", "x"), ""}}, 0, 4, "two", []string{"d"}},
		{"all may not last", [2]file{{"", one}, {}}, [2]file{{one, ""}, {}}, 0, 3, "one", []string{"a", "bc"}},
		{"the other keeps its Tail", [2]file{{one, "xyz"}, {two, "no"}}, [2]file{{one, "xyz"}, {two, ""}}, 1, 4, "two", []string{"d"}},
		{"the other keeps its Tail, too", [2]file{{two, "no"}, {"", one + "xyz"}}, [2]file{{two, ""}, {"", one + "xyz"}}, 0, 4, "two", []string{"d"}},
		{"junk lasts behind the entries", [2]file{{one + "junk", ""}, {}}, [2]file{{one, ""}, {}}, 0, 3, "one", []string{"a", "bc"}},
		{"junk, and a record behind it", [2]file{{one + "\x00" + bytesA, bytesA}, {}}, [2]file{{one, ""}, {}}, 0, 3, "one", []string{"a", "bc"}},
		{"no generation", [2]file{{"junk", "and more"}, {"what", "ever"}}, [2]file{{begun, ""}, {"what", "ever"}}, 0, 1, "", nil},
		{"records of none", [2]file{{bytesA, bytesA}, {bytesA, bytesA}}, [2]file{{begun, ""}, {bytesA, bytesA}}, 0, 1, "", nil},
		{"a generation behind another record", [2]file{{bytesA + one, ""}, {bytesA, one}}, [2]file{{begun, ""}, {bytesA, one}}, 0, 1, "", nil},
		{"an entry that looks like a head", [2]file{{written(3, "", headOf(9, "x")), ""}, {two, ""}},
			[2]file{{written(3, "", headOf(9, "x")), ""}, {two, ""}}, 1, 4, "two", []string{"d"}},
		{"such an entry is told", [2]file{{written(5, "", headOf(9, "x"), "G"), ""}, {two, ""}},
			[2]file{{written(5, "", headOf(9, "x"), "G"), ""}, {two, ""}}, 0, 5, "", []string{headOf(9, "x"), "G"}},
	} {
		p := plain{files: x.files}
		want := answer{plain{x.want, x.at, x.gen}, x.snapshot, x.entries, api.OK}
		if own := wantOpen(p); own.String() != want.String() {
			t.Fatalf("%s: the test's own Open: %v, want %v", x.name, own, want)
		}
		expectOpen(t, x.name, lend(p, "").journal.Disk, want)
		holdOpen(t, p)
	}
}

// gens are generations that may be, and some that may not.
var gens = []uint64{
	0, 1, 2, 3, 127, 128, 255, 256, 257, 1 << 16, 1 << 31, 1<<32 - 1, 1 << 32, 1<<32 + 1, 1 << 56, 1<<61 + 1,
	1<<62 - 2, 1<<62 - 1, 1 << 62, 1<<62 + 1, 1<<63 - 1, 1 << 63, 1<<63 + 1, 1<<64 - 1, 0x0102030405060708,
}

func TestP101Generations(t *testing.T) {
	may := func(gen uint64) bool { return gen >= 1 && gen <= 1<<62 }
	for _, one := range gens {
		for _, other := range gens {
			p := diskOf(written(one, "one", "a"), written(other, "other", "b"))
			j, snapshot, entries, e := Open(lend(p, "").journal.Disk)
			want := reply{api.Journal{Disk: j.Disk, At: 0, Gen: 1}, nil, nil, api.OK}
			switch {
			case may(other) && (!may(one) || other > one):
				want.journal.At, want.journal.Gen = 1, int64(other)
				want.snapshot, want.entries = []byte("other"), [][]byte{[]byte("b")}
			case may(one):
				want.journal.Gen = int64(one)
				want.snapshot, want.entries = []byte("one"), [][]byte{[]byte("a")}
			}
			if got := (reply{j, snapshot, entries, e}); got.String() != want.String() {
				t.Fatalf("Open of generations %d and %d\n got %v\nwant %v", one, other, got, want)
			}
			holdOpen(t, p)
		}
		holdOpen(t, diskOf(written(one, ""), ""))
		holdOpen(t, diskOf("", written(one, "")))
	}
}

// Each bit of a generation stands where it should.
func TestP101EachBitOfAGeneration(t *testing.T) {
	for bit := range 64 {
		gen := uint64(1) << bit
		p := diskOf("", written(gen, "s"))
		j, _, _, e := Open(lend(p, "").journal.Disk)
		if bit <= 62 && (e != api.OK || j.Gen != 1<<bit || j.At != 1) {
			t.Errorf("bit %d: At %d, Gen %d, error %d", bit, j.At, j.Gen, e)
		}
		if bit > 62 && (e != api.OK || j.Gen != 1 || j.At != 0) {
			t.Errorf("bit %d: At %d, Gen %d, error %d", bit, j.At, j.Gen, e)
		}
		holdOpen(t, p)
		if bit < 62 {
			holdRotate(t, plain{[2]file{}, 0, 1 << bit}, "s")
			holdRotate(t, plain{[2]file{}, 1, 1<<bit - 1 + 1<<(bit/2)}, "s")
		}
	}
}

// A first record that is too short, or begins with another byte, or is none,
// makes no file of a generation, wherever it stands.
func TestP101FirstRecord(t *testing.T) {
	whole := headOf(5, "snap")
	var firsts []string
	for n := 1; n <= len(whole); n++ {
		firsts = append(firsts, record(whole[:n]))
	}
	for one := range 256 {
		firsts = append(firsts, record(string([]byte{byte(one)})+whole[1:]))
	}
	firsts = append(firsts, "", whole, "x"+record(whole), "\x00"+record(whole), record(""), "\x10\x01"+many(4200))
	for _, s := range firsts {
		for _, more := range []string{"", bytesA, "junk"} {
			s := s + more
			for _, p := range []plain{
				diskOf(s, ""), diskOf("", s), diskOf(s, s),
				diskOf(s, written(4, "four", "x")), diskOf(written(4, "four", "x"), s),
				{files: [2]file{{"", s}, {"ju", "nk"}}}, {files: [2]file{{"ju", "nk"}, {"", s}}},
			} {
				holdOpen(t, p)
			}
		}
	}
	for _, n := range []int{1, 2, 8} {
		p := diskOf(record(many(n)), record(whole[:n]))
		expectOpen(t, "a short first record", lend(p, "").journal.Disk,
			answer{plain: plain{[2]file{{safe: bytesFirst}, p.files[1]}, 0, 1}})
	}
	p := diskOf("", record(whole[:9]))
	expectOpen(t, "a first record of nine bytes", lend(p, "").journal.Disk, answer{plain: plain{p.files, 1, 5}})
}

// Of a head of which one bit is turned no generation is told that isn't there.
func TestP101BitsTurned(t *testing.T) {
	whole := written(6, "snap", "a")
	for i := range len(whole) {
		for bit := range 8 {
			b := []byte(whole)
			b[i] ^= 1 << bit
			holdOpen(t, diskOf(string(b), ""))
			holdOpen(t, diskOf(string(b), written(5, "five", "x")))
			holdOpen(t, diskOf(written(5, "five", "x"), string(b)))
			j, _, entries, _ := Open(lend(diskOf(written(5, "five", "x"), string(b)), "").journal.Disk)
			switch inHead := i < len(written(6, "snap")); {
			case inHead && (j.At != 0 || j.Gen != 5 || len(entries) != 1):
				t.Fatalf("bit %d of byte %d, in the head: At %d, Gen %d", bit, i, j.At, j.Gen)
			case !inHead && (j.At != 1 || j.Gen != 6 || len(entries) != 0):
				t.Fatalf("bit %d of byte %d, in the entry: At %d, Gen %d, %q", bit, i, j.At, j.Gen, entries)
			}
		}
	}
}

// What stands on a disk may be longer than what is put there: up to a record.
func TestP101LongOnes(t *testing.T) {
	for _, n := range []int{0, 1, 8, 9, 3999, 4000, 4001, mostRecord - 9} {
		for _, m := range []int{1, 3999, 4000, 4001, mostRecord} {
			p := diskOf(written(7, many(n), many(m), "z"), "")
			expectOpen(t, "a long one", lend(p, "").journal.Disk,
				answer{plain{p.files, 0, 7}, many(n), []string{many(m), "z"}, api.OK})
			holdOpen(t, p)
			holdOpen(t, diskOf(written(6, "", "a"), written(7, many(n), many(m), "z")))
		}
	}
}

// behinds are bytes that are no record, or no whole one.
func behinds() []string {
	whole := record("entry")
	l := []string{"", "\x00", "\x00\x00", "\x00\x00\x00\x00\x00\x00", "\x00\x00\x00\x00\x00\x00\x00", "junk", "a longer piece of junk",
		"\x10\x01" + many(4200), "\xff\xff" + many(100), "G", record("")}
	for n := 1; n < len(whole); n++ {
		l = append(l, whole[:n])
	}
	for i := range len(whole) {
		b := []byte(whole)
		b[i] ^= 0x10
		l = append(l, string(b))
	}
	return l
}

func TestP101CutOff(t *testing.T) {
	entries := []string{"a", "bc", many(300)}
	for n := range len(entries) + 1 {
		for at := range 2 {
			for _, behind := range behinds() {
				for _, more := range []string{"", record("behind it")} {
					if more != "" && behind == "" {
						continue
					}
					s := written(9, "snap", entries[:n]...)
					for _, f := range splits(s + behind + more) {
						var p plain
						p.files[at] = f
						p.files[1-at] = file{written(8, "old", "x"), "tail"}
						want := answer{plain{p.files, at, 9}, "snap", entries[:n], api.OK}
						want.files[at] = file{safe: s}
						expectOpen(t, "cut off", lend(p, "").journal.Disk, want)
						holdOpen(t, p)
					}
				}
			}
		}
	}
}

// A file that is cut anywhere, and split anywhere in what lasts and what may not.
func TestP101EachCutAndSplit(t *testing.T) {
	s := written(2, "s", "a", "bcd")
	for cut := range len(s) + 1 {
		for split := range cut + 1 {
			f := file{s[:split], s[split:cut]}
			for _, other := range []file{{}, {"", written(1, "t", "u")}, {written(3, "t", "u"), "v"}, {"w", "x"}} {
				holdOpen(t, plain{files: [2]file{f, other}})
				holdOpen(t, plain{files: [2]file{other, f}})
			}
		}
	}
}

// Where no file is one of a generation, file 0 becomes one, and file 1 stays.
func TestP101NoGeneration(t *testing.T) {
	nones := append(behinds(), bytesA, many(mostFile), bytesA+bytesFirst, written(0, "s", "a"), written(1<<62+1, "s", "a"),
		record("G"), record("G1234567"), record("H12345678"), strings.Repeat("\x00", 100))
	for _, one := range nones {
		for _, other := range []string{"", "junk", bytesA, many(mostFile), written(0, "s"), written(1<<62+1, "s")} {
			for i, f := range splits(other) {
				p := plain{files: [2]file{splits(one)[i], f}}
				want := answer{plain: plain{[2]file{{safe: bytesFirst}, f}, 0, 1}}
				expectOpen(t, "no generation", lend(p, "").journal.Disk, want)
				if len(one)+len(other) < mostFile {
					holdOpen(t, p)
				}
			}
		}
	}
	holdOpen(t, plain{files: [2]file{fileOf(1, mostFile-1), fileOf(mostFile-1, 1)}})
}

// Files up to the bound, all of records, and with junk at their ends.
func TestP101FullFiles(t *testing.T) {
	for _, all := range []int{mostFile - 8, mostFile - 7, mostFile - 1, mostFile} {
		s := written(1, "", entriesUpTo(all)...)
		if len(s) != all {
			t.Fatalf("the test's own file has %d bytes, not %d", len(s), all)
		}
		for _, behind := range []string{"", strings.Repeat("\xff", mostFile-all)} {
			for _, f := range splits(s + behind) {
				for _, p := range []plain{{files: [2]file{f, {}}}, {files: [2]file{{}, f}}, {files: [2]file{f, f}}, {files: [2]file{fileOf(mostFile, 0), f}}} {
					holdOpen(t, p)
				}
			}
		}
		holdOpen(t, plain{files: [2]file{{safe: s}, {safe: s + "x"}}, at: 0, gen: 1})
	}
	p := diskOf("", written(1, "", entriesUpTo(mostFile)...))
	expectOpen(t, "a full file", lend(p, "").journal.Disk, answer{plain{p.files, 1, 1}, "", entriesUpTo(mostFile), api.OK})
}

// notRight are disks that aren't, by the one file, by the other, and by both.
func notRight() [][2]file {
	var l [][2]file
	gen := written(5, "s", "a")
	bads := append(splits(many(mostFile+1)), fileOf(mostFile, mostFile), fileOf(0, 2*mostFile), file{gen + many(mostFile), ""}, file{gen, many(mostFile)})
	for _, bad := range bads {
		for _, other := range []file{{}, {gen, ""}, {written(4, "t"), bytesA}} {
			l = append(l, [2]file{bad, other}, [2]file{other, bad})
		}
		l = append(l, [2]file{bad, bad})
	}
	return l
}

func TestP101NotRight(t *testing.T) {
	for _, files := range notRight() {
		p := plain{files: files}
		j, snapshot, entries, e := Open(lend(p, "").journal.Disk)
		none := api.Journal{}
		if e != api.ErrArg || j.At != none.At || j.Gen != none.Gen || len(snapshot) != 0 || len(entries) != 0 {
			t.Errorf("Open of %v: %v", p, reply{j, snapshot, entries, e})
		}
		for _, b := range (reply{journal: j}).slices() {
			if len(b) != 0 {
				t.Errorf("Open of %v: a disk of %d bytes beside the error", p, len(b))
			}
		}
		holdOpen(t, p)
	}
}

// Nil and empty slices are alike.
func TestP101NoBytes(t *testing.T) {
	for _, none := range [][]byte{nil, {}, make([]byte, 0, 50)} {
		d := api.Disk{Files: [2]api.File{{Safe: none, Tail: none}, {Safe: none, Tail: none}}}
		want := plain{[2]file{{safe: bytesFirst}, {}}, 0, 1}
		expectOpen(t, "nothing", d, answer{plain: want})
		j, _, _, _ := Open(d)
		got, e := Add(j, none)
		expect(t, "Add of nothing", got, e, want, api.ErrArg)
		got, e = Rotate(j, none)
		expect(t, "Rotate with nothing", got, e, plain{[2]file{{safe: bytesFirst}, {safe: written(2, "")}}, 1, 2}, api.OK)
		got, e = Sync(api.Journal{Disk: d, Gen: 1})
		expect(t, "Sync of nothing", got, e, plain{gen: 1}, api.OK)
	}
}

// What is opened is opened again as it was.
func TestP101Again(t *testing.T) {
	for _, p := range []plain{{}, diskOf("junk", "junk"), diskOf(written(3, "s", "a")+"junk", written(2, "t")),
		{files: [2]file{{written(3, "s"), bytesA + "x"}, {written(4, "t"), bytesA + bytesA + "y"}}}} {
		j, snapshot, entries, e := Open(lend(p, "").journal.Disk)
		again, otherSnapshot, otherEntries, otherE := Open(j.Disk)
		one, other := reply{j, snapshot, entries, e}, reply{again, otherSnapshot, otherEntries, otherE}
		if e != api.OK || one.String() != other.String() {
			t.Errorf("opened again: %v, at first: %v", other, one)
		}
	}
}

// some journals that may be, with each file the journal's, and such whose file
// isn't one of their generation.
func some() []plain {
	one, two := written(3, "one", "a"), written(4, "two", "b", "cd")
	var l []plain
	for _, files := range [][2]file{
		{},
		{{one, ""}, {}},
		{{one, bytesA}, {two, ""}},
		{{one, bytesA}, {two, bytesA + bytesA}},
		{{"", one + bytesA}, {"", two}},
		{{"junk", "and more"}, {"what", "ever"}},
		{{two, "x"}, {"", "y"}},
		{fileOf(100, 200), fileOf(mostFile, 0)},
		{fileOf(0, mostFile), fileOf(mostFile/2, mostFile/2)},
	} {
		for at := range 2 {
			for _, gen := range []int64{1, 2, 3, 4, 1 << 32, mostGen - 1, mostGen} {
				l = append(l, plain{files, at, gen})
			}
		}
	}
	return l
}

func TestP102AddKnown(t *testing.T) {
	for _, x := range []struct {
		files [2]file
		at    int
		entry string
		want  [2]file
		e     api.Errno
	}{
		{[2]file{}, 0, "a", [2]file{{"", bytesA}, {}}, api.OK},
		{[2]file{}, 1, "a", [2]file{{}, {"", bytesA}}, api.OK},
		{[2]file{{bytesFirst, ""}, {"x", "y"}}, 0, "a", [2]file{{bytesFirst, bytesA}, {"x", "y"}}, api.OK},
		{[2]file{{bytesFirst, ""}, {"x", "y"}}, 1, "a", [2]file{{bytesFirst, ""}, {"x", "y" + bytesA}}, api.OK},
		{[2]file{{bytesFirst, bytesA}, {}}, 0, "bc", [2]file{{bytesFirst, bytesA + record("bc")}, {}}, api.OK},
		{[2]file{{bytesFirst, bytesA}, {}}, 0, "", [2]file{{bytesFirst, bytesA}, {}}, api.ErrArg},
		{[2]file{{bytesFirst, ""}, {}}, 0, "\x00\xff\n", [2]file{{bytesFirst, record("\x00\xff\n")}, {}}, api.OK},
		{[2]file{{bytesFirst, ""}, {}}, 0, many(4000), [2]file{{bytesFirst, record(many(4000))}, {}}, api.OK},
		{[2]file{{bytesFirst, ""}, {}}, 0, many(4001), [2]file{{bytesFirst, ""}, {}}, api.ErrArg},
		{[2]file{fileOf(mostFile-7, 0), {}}, 0, "a", [2]file{{many(mostFile - 7), bytesA}, {}}, api.OK},
		{[2]file{fileOf(mostFile-6, 0), {}}, 0, "a", [2]file{fileOf(mostFile-6, 0), {}}, api.ErrFull},
		{[2]file{fileOf(mostFile-6, 0), {}}, 1, "a", [2]file{fileOf(mostFile-6, 0), {"", bytesA}}, api.OK},
		{[2]file{fileOf(mostFile, 0), {}}, 0, "", [2]file{fileOf(mostFile, 0), {}}, api.ErrArg},
		{[2]file{fileOf(mostFile, 0), {}}, 0, many(4001), [2]file{fileOf(mostFile, 0), {}}, api.ErrArg},
	} {
		p, want := plain{x.files, x.at, 1}, plain{x.want, x.at, 1}
		if own := wantAdd(p, x.entry); own.plain != want || own.e != x.e {
			t.Fatalf("the test's own Add: %v, want %v, error %d", own, want, x.e)
		}
		j, e := Add(lend(p, "").journal, []byte(x.entry))
		expect(t, fmt.Sprintf("Add of %d bytes", len(x.entry)), j, e, want, x.e)
		holdAdd(t, p, x.entry)
	}
}

// sizes of entries and snapshots, about the bounds of these and of a record.
var sizes = []int{0, 1, 2, 255, 256, 257, 3999, 4000, 4001, 4087, 4088, 4095, 4096, 4097, mostFile, 1 << 20}

func TestP102Sizes(t *testing.T) {
	for _, p := range []plain{{[2]file{{bytesFirst, bytesA}, {"x", "y"}}, 0, 1}, {[2]file{{"x", "y"}, {bytesSecond, bytesA}}, 1, 2}} {
		for _, n := range sizes {
			if j, e := Add(lend(p, "").journal, []byte(many(n))); (e == api.OK) != (n >= 1 && n <= 4000) || (e == api.ErrArg) != (n < 1 || n > 4000) {
				t.Errorf("Add of %d bytes: %v, error %d", n, j, e)
			}
			holdAdd(t, p, many(n))
			if j, e := Rotate(lend(p, "").journal, []byte(many(n))); (e == api.OK) != (n <= 4000) || (e == api.ErrArg) != (n > 4000) {
				t.Errorf("Rotate with %d bytes: %v, error %d", n, j, e)
			}
			holdRotate(t, p, many(n))
		}
	}
}

// There is room for just the record, and none for a byte more.
func TestP102AddRoom(t *testing.T) {
	for _, n := range []int{1, 2, 100, 3999, 4000} {
		for short := -1; short <= 3; short++ {
			for _, f := range splits(many(mostFile - n - 6 + short)) {
				for at := range 2 {
					for _, other := range []file{{}, fileOf(0, mostFile)} {
						p := plain{at: at, gen: 1}
						p.files[at], p.files[1-at] = f, other
						j, e := Add(lend(p, "").journal, []byte(many(n)))
						if (short <= 0) != (e == api.OK) || (short > 0) != (e == api.ErrFull) {
							t.Fatalf("Add of %d bytes with %d too few: error %d", n, short, e)
						}
						if !disk.Right(j.Disk) {
							t.Fatalf("Add of %d bytes with %d too few makes a disk that isn't right", n, short)
						}
						holdAdd(t, p, many(n))
					}
				}
			}
		}
	}
}

// A file is filled up to its last byte, and opened as it was.
func TestP102UpToTheBound(t *testing.T) {
	for _, at := range []int{0, 1} {
		j, _, _, e := Open(api.Disk{})
		gen := uint64(1)
		if at == 1 {
			gen = 2
			if j, e = Rotate(j, nil); e != api.OK {
				t.Fatalf("Rotate: error %d", e)
			}
		}
		l := entriesUpTo(mostFile)
		for i, s := range l {
			if j, e = Add(j, []byte(s)); e != api.OK {
				t.Fatalf("Add of entry %d: error %d", i, e)
			}
		}
		full := j
		if j, e = Add(j, []byte("a")); e != api.ErrFull || !slices.EqualFunc(reply{journal: j}.slices(), reply{journal: full}.slices(), bytes.Equal) {
			t.Errorf("Add above the bound: error %d", e)
		}
		if j, e = Sync(j); e != api.OK {
			t.Errorf("Sync: error %d", e)
		}
		var want plain
		want.files[0] = file{safe: bytesFirst}
		want.files[at] = file{safe: written(gen, "", l...)}
		want.at, want.gen = at, int64(gen)
		expectOpen(t, "a full file", Crash(j, [2]int{}), answer{want, "", l, api.OK})
		// A rotation makes room again.
		if j, e = Rotate(j, []byte(many(4000))); e != api.OK {
			t.Errorf("Rotate: error %d", e)
		}
		if _, e = Add(j, []byte(many(4000))); e != api.OK {
			t.Errorf("Add behind a rotation: error %d", e)
		}
	}
}

func TestP102SyncKnown(t *testing.T) {
	for _, x := range []struct {
		files [2]file
		at    int
		want  [2]file
	}{
		{[2]file{}, 0, [2]file{}},
		{[2]file{{"ab", "cd"}, {"x", "yz"}}, 0, [2]file{{"abcd", ""}, {"x", "yz"}}},
		{[2]file{{"ab", "cd"}, {"x", "yz"}}, 1, [2]file{{"ab", "cd"}, {"xyz", ""}}},
		{[2]file{{bytesFirst, bytesA + "junk"}, {}}, 0, [2]file{{bytesFirst + bytesA + "junk", ""}, {}}},
		{[2]file{{bytesFirst, bytesA}, {}}, 1, [2]file{{bytesFirst, bytesA}, {}}},
		{[2]file{fileOf(1, mostFile-1), fileOf(0, mostFile)}, 0, [2]file{fileOf(mostFile, 0), fileOf(0, mostFile)}},
	} {
		p, want := plain{x.files, x.at, 7}, plain{x.want, x.at, 7}
		if own := wantSync(p); own.plain != want || own.e != api.OK {
			t.Fatalf("the test's own Sync: %v, want %v", own, want)
		}
		j, e := Sync(lend(p, "").journal)
		expect(t, "Sync", j, e, want, api.OK)
		holdSync(t, p)
	}
}

func TestP102RotateKnown(t *testing.T) {
	for _, x := range []struct {
		files    [2]file
		at       int
		gen      int64
		snapshot string
		want     [2]file
	}{
		{[2]file{}, 0, 1, "", [2]file{{}, {written(2, ""), ""}}},
		{[2]file{}, 1, 1, "", [2]file{{written(2, ""), ""}, {}}},
		{[2]file{{bytesFirst, bytesA}, {}}, 0, 1, "snap", [2]file{{bytesFirst, bytesA}, {bytesSecond, ""}}},
		{[2]file{{"any", "thing"}, {bytesFirst, bytesA}}, 1, 1, "snap", [2]file{{bytesSecond, ""}, {bytesFirst, bytesA}}},
		{[2]file{{"any", "thing"}, {bytesFirst, bytesA + "x"}}, 0, 1, "snap", [2]file{{"any", "thing"}, {bytesSecond, ""}}},
		{[2]file{{bytesFirst, ""}, {written(9, "t"), bytesA}}, 0, 1, "snap", [2]file{{bytesFirst, ""}, {bytesSecond, ""}}},
		{[2]file{fileOf(0, mostFile), fileOf(1, mostFile-1)}, 0, 255, "s", [2]file{fileOf(0, mostFile), {written(256, "s"), ""}}},
		{[2]file{fileOf(0, mostFile), fileOf(1, mostFile-1)}, 1, mostGen - 1, "s", [2]file{{written(1<<62, "s"), ""}, fileOf(1, mostFile-1)}},
		{[2]file{{bytesFirst, ""}, {}}, 0, 1, many(4000), [2]file{{bytesFirst, ""}, {written(2, many(4000)), ""}}},
	} {
		p, want := plain{x.files, x.at, x.gen}, plain{x.want, 1 - x.at, x.gen + 1}
		if own := wantRotate(p, x.snapshot); own.plain != want || own.e != api.OK {
			t.Fatalf("the test's own Rotate: %v, want %v", own, want)
		}
		j, e := Rotate(lend(p, "").journal, []byte(x.snapshot))
		expect(t, "Rotate", j, e, want, api.OK)
		holdRotate(t, p, x.snapshot)
	}
}

// Each file is the journal's by turns, up to the greatest generation.
func TestP102RotateByTurns(t *testing.T) {
	for _, from := range []int64{1, 250, 1<<32 - 5, mostGen - 10} {
		p := plain{[2]file{{safe: written(uint64(from), "begin")}, {}}, 0, from}
		j := lend(p, "").journal
		last := from + 10
		for gen := from + 1; gen <= last; gen++ {
			snapshot := fmt.Sprint("snapshot ", gen)
			entry := fmt.Sprint("entry ", gen)
			var e api.Errno
			if j, e = Rotate(j, []byte(snapshot)); e != api.OK || j.Gen != gen || j.At != int(gen-from)%2 {
				t.Fatalf("Rotate to %d: At %d, Gen %d, error %d", gen, j.At, j.Gen, e)
			}
			if j, e = Add(j, []byte(entry)); e != api.OK {
				t.Fatalf("Add at %d: error %d", gen, e)
			}
			p.files[j.At] = file{written(uint64(gen), snapshot), record(entry)}
			expect(t, "by turns", j, api.OK, plain{p.files, j.At, gen}, api.OK)
			want := answer{plain{p.files, j.At, gen}, snapshot, []string{entry}, api.OK}
			want.files[j.At] = file{safe: p.files[j.At].all()}
			expectOpen(t, "by turns", j.Disk, want)
		}
		j, e := Rotate(j, []byte("above"))
		if want := last == mostGen; want != (e == api.ErrOver) || !want != (e == api.OK) {
			t.Errorf("Rotate at %d: error %d", last, e)
		} else if want && (j.Gen != mostGen || string(j.Disk.Files[j.At].Tail) != record(fmt.Sprint("entry ", mostGen))) {
			t.Errorf("Rotate at %d: the journal isn't as it was", last)
		}
	}
}

// Whether a journal's file is that of its generation isn't looked at.
func TestP102AnyFile(t *testing.T) {
	for _, p := range some() {
		for _, s := range []string{"", "a", "entry", many(4000), many(4001)} {
			holdAdd(t, p, s)
			holdRotate(t, p, s)
		}
		holdSync(t, p)
		holdOpen(t, p)
	}
}

var (
	// noFiles are numbers of no file, noGens of no generation.
	noFiles = []int{-1, 2, -2, 3, 255, 256, 1 << 32, 1<<32 + 1, -1 << 32, math.MinInt, math.MinInt + 1, math.MaxInt - 1, math.MaxInt}
	noGens  = []int64{0, -1, -2, mostGen + 1, mostGen + 2, math.MaxInt64 - 1, math.MaxInt64, math.MinInt64, math.MinInt64 + 1, -mostGen, -1 << 32}
)

// wrong holds a journal that may not be against ErrArg by each call, ahead of
// whatever else there is.
func wrong(t *testing.T, p plain) {
	t.Helper()
	for _, s := range []string{"", "a", many(4000), many(4001)} {
		j, e := Add(lend(p, "").journal, []byte(s))
		expect(t, "Add to a journal that may not be", j, e, p, api.ErrArg)
		j, e = Rotate(lend(p, "").journal, []byte(s))
		expect(t, "Rotate of a journal that may not be", j, e, p, api.ErrArg)
		holdAdd(t, p, s)
		holdRotate(t, p, s)
	}
	j, e := Sync(lend(p, "").journal)
	expect(t, "Sync of a journal that may not be", j, e, p, api.ErrArg)
	holdSync(t, p)
	for _, keep := range [][2]int{{0, 0}, {1, 0}, {0, 1}, {-1, mostFile}} {
		holdCrash(t, p, keep)
	}
}

func TestP102NoSuchFile(t *testing.T) {
	for _, files := range [][2]file{{}, {{bytesFirst, bytesA}, {bytesSecond, bytesA}}, {fileOf(mostFile, 0), fileOf(0, mostFile)}} {
		for _, at := range noFiles {
			for _, gen := range []int64{1, 2, mostGen, 0, mostGen + 1} {
				wrong(t, plain{files, at, gen})
			}
		}
	}
}

func TestP102NoSuchGeneration(t *testing.T) {
	for _, files := range [][2]file{{}, {{bytesFirst, bytesA}, {bytesSecond, bytesA}}, {fileOf(mostFile, 0), fileOf(0, mostFile)}} {
		for _, gen := range noGens {
			for _, at := range []int{0, 1, -1, 2} {
				wrong(t, plain{files, at, gen})
			}
		}
	}
}

func TestP102NotRight(t *testing.T) {
	for _, files := range notRight() {
		for _, at := range []int{0, 1, -1} {
			for _, gen := range []int64{1, mostGen, 0} {
				wrong(t, plain{files, at, gen})
			}
		}
	}
}

// Which error comes first where several may apply.
func TestP102WhichErrorFirst(t *testing.T) {
	full := [2]file{fileOf(mostFile, 0), fileOf(0, mostFile)}
	for at := range 2 {
		over := plain{full, at, mostGen}
		for n, want := range map[int]api.Errno{0: api.ErrOver, 1: api.ErrOver, 4000: api.ErrOver, 4001: api.ErrArg, 5000: api.ErrArg} {
			j, e := Rotate(lend(over, "").journal, []byte(many(n)))
			expect(t, fmt.Sprintf("Rotate with %d bytes at the greatest generation", n), j, e, over, want)
			holdRotate(t, over, many(n))
		}
		for n, want := range map[int]api.Errno{0: api.ErrArg, 1: api.ErrFull, 4000: api.ErrFull, 4001: api.ErrArg, mostFile: api.ErrArg} {
			j, e := Add(lend(over, "").journal, []byte(many(n)))
			expect(t, fmt.Sprintf("Add of %d bytes to a full file", n), j, e, over, want)
			holdAdd(t, over, many(n))
		}
		// The greatest generation is one as all others but for Rotate.
		room := plain{[2]file{{bytesFirst, ""}, {bytesSecond, ""}}, at, mostGen}
		if _, e := Add(lend(room, "").journal, []byte("a")); e != api.OK {
			t.Errorf("Add at the greatest generation: error %d", e)
		}
		if _, e := Sync(lend(room, "").journal); e != api.OK {
			t.Errorf("Sync at the greatest generation: error %d", e)
		}
		if j, e := Rotate(lend(plain{room.files, at, mostGen - 1}, "").journal, nil); e != api.OK || j.Gen != mostGen {
			t.Errorf("Rotate ahead of the greatest generation: Gen %d, error %d", j.Gen, e)
		}
	}
}

// Crash is that of the disk, whatever else the journal has.
func TestP102Crash(t *testing.T) {
	tails := [2]file{{"abc", "def"}, {"xyz", "uvw"}}
	far := []int{math.MinInt, -1, 0, 1, 2, 3, 4, math.MaxInt}
	for _, at := range append([]int{0, 1}, noFiles...) {
		for _, gen := range append([]int64{1, mostGen}, noGens...) {
			for _, one := range far {
				for _, other := range far {
					holdCrash(t, plain{tails, at, gen}, [2]int{one, other})
				}
			}
		}
	}
	d := Crash(lend(plain{files: tails, at: -7, gen: -7}, "").journal, [2]int{1, 2})
	expect(t, "Crash", api.Journal{Disk: d}, api.OK, diskOf("abcd", "xyzuv"), api.OK)
	for _, files := range notRight() {
		holdCrash(t, plain{files, 0, 1}, [2]int{1, 1})
	}
}

// What was answered stays as it was, whatever is called behind it, and a call
// answers the same each time.
func TestP102AnswersStay(t *testing.T) {
	p := plain{[2]file{{bytesFirst, bytesA}, {"x", "y"}}, 0, 1}
	d := lend(p, "").journal
	type kept struct {
		j    api.Journal
		want plain
	}
	var l []kept
	both := func(tail string, other file) [2]file { return [2]file{{bytesFirst, tail}, other} }
	for range 3 {
		b, _ := Add(d, []byte("b"))
		l = append(l, kept{b, plain{both(bytesA+record("b"), file{"x", "y"}), 0, 1}})
		bc, _ := Add(b, []byte("c"))
		l = append(l, kept{bc, plain{both(bytesA+record("b")+record("c"), file{"x", "y"}), 0, 1}})
		// Two journals go on from one, each by itself.
		bd, _ := Add(b, []byte("d"))
		l = append(l, kept{bd, plain{both(bytesA+record("b")+record("d"), file{"x", "y"}), 0, 1}})
		s, _ := Sync(b)
		l = append(l, kept{s, plain{[2]file{{safe: bytesFirst + bytesA + record("b")}, {"x", "y"}}, 0, 1}})
		se, _ := Add(s, []byte("e"))
		l = append(l, kept{se, plain{[2]file{{bytesFirst + bytesA + record("b"), record("e")}, {"x", "y"}}, 0, 1}})
		r, _ := Rotate(b, []byte("snap"))
		l = append(l, kept{r, plain{both(bytesA+record("b"), file{bytesSecond, ""}), 1, 2}})
		rf, _ := Add(r, []byte("f"))
		l = append(l, kept{rf, plain{both(bytesA+record("b"), file{bytesSecond, record("f")}), 1, 2}})
		bad, _ := Add(b, nil)
		l = append(l, kept{bad, l[len(l)-7].want})
	}
	for i, x := range l {
		expect(t, fmt.Sprintf("answer %d", i), x.j, api.OK, x.want, api.OK)
	}
	expect(t, "what was handed in", d, api.OK, p, api.OK)
}

// Slices that share their memory when they are handed in share none behind it.
func TestP102TheSameMemoryHandedIn(t *testing.T) {
	memory := []byte(written(3, "s", "a", "b"))
	all := string(memory)
	j := api.Journal{Disk: api.Disk{Files: [2]api.File{{Safe: memory, Tail: memory[15:]}, {Safe: memory[:9], Tail: memory[9:]}}}, At: 1, Gen: 3}
	p := plain{[2]file{{all, all[15:]}, {all[:9], all[9:]}}, 1, 3}
	type made struct {
		got  reply
		want answer
	}
	var l []made
	put := func(j api.Journal, e api.Errno, want answer) { l = append(l, made{reply{journal: j, e: e}, want}) }
	o, snapshot, entries, e := Open(j.Disk)
	l = append(l, made{reply{o, snapshot, entries, e}, wantOpen(p)})
	n, e := Add(j, memory[3:9])
	put(n, e, wantAdd(p, all[3:9]))
	n, e = Add(j, memory[:0])
	put(n, e, wantAdd(p, ""))
	n, e = Sync(j)
	put(n, e, wantSync(p))
	n, e = Rotate(j, memory)
	put(n, e, wantRotate(p, all))
	put(api.Journal{Disk: Crash(j, [2]int{9, 9})}, api.OK, wantCrash(p, [2]int{9, 9}))
	if string(memory) != all {
		t.Error("what was handed in isn't as it was")
	}
	scribble(memory, '!')
	var parts [][]byte
	for i, x := range l {
		if !x.got.is(x.want) {
			t.Errorf("answer %d\n got %v\nwant %v", i, x.got, x.want)
		}
		parts = append(parts, x.got.slices()...)
	}
	for i, one := range parts {
		scribble(one[:cap(one)], byte(i))
	}
	for i, one := range parts {
		if !filled(one[:cap(one)], byte(i)) {
			t.Errorf("slice %d of the answers shares memory", i)
		}
	}
}

func TestP102AtTheSameTime(t *testing.T) {
	p := plain{[2]file{{written(3, "s", "a"), bytesA}, {written(2, "t"), bytesA}}, 0, 3}
	j := lend(p, "").journal
	var wait sync.WaitGroup
	for at := range 8 {
		wait.Go(func() {
			for i := range 50 {
				s := strings.Repeat(string(rune('a'+at)), i+1)
				n, e := Add(j, []byte(s))
				expect(t, "Add at the same time", n, e, wantAdd(p, s).plain, api.OK)
				n, e = Rotate(j, []byte(s))
				expect(t, "Rotate at the same time", n, e, wantRotate(p, s).plain, api.OK)
				expectOpen(t, "Open at the same time", j.Disk, wantOpen(p))
				if t.Failed() {
					return
				}
			}
		})
	}
	wait.Wait()
}

// story is what a journal was told: its snapshot, the entries behind it, and how
// many of these were added ahead of the last Sync or Rotate.
type story struct {
	snapshot string
	entries  []string
	synced   int
	at       int
	gen      int64
}

// behind a crash that keeps so many bytes of the journal's file.
func (s story) behind(keep [2]int) story {
	left := keep[s.at]
	n := s.synced
	for n < len(s.entries) && left >= 6+len(s.entries[n]) {
		left -= 6 + len(s.entries[n])
		n++
	}
	s.entries = s.entries[:n:n]
	s.synced = n
	return s
}

// told is whether this is what Open tells; what it tells lasts.
func (s story) told(r reply) bool {
	same := func(b []byte, s string) bool { return string(b) == s }
	return r.e == api.OK && r.journal.At == s.at && r.journal.Gen == s.gen && string(r.snapshot) == s.snapshot &&
		slices.EqualFunc(r.entries, s.entries, same) && len(r.journal.Disk.Files[s.at].Tail) == 0
}

func (s story) String() string {
	return fmt.Sprintf("At %d, Gen %d, %s", s.at, s.gen, show(append([]string{s.snapshot}, s.entries...)))
}

// reopen behind a crash, held against what it should tell.
func reopen(t *testing.T, j api.Journal, s story, keep [2]int) (api.Journal, story) {
	t.Helper()
	want := s.behind(keep)
	n, snapshot, entries, e := Open(Crash(j, keep))
	if got := (reply{n, snapshot, entries, e}); !want.told(got) {
		t.Fatalf("behind a crash keeping %d\n got %v\nwant %v\nof %v, %d synced", keep, got, want, s, s.synced)
	}
	return n, want
}

// step is what is done: an entry is added (A), it is synced (S), rotated (R),
// or it crashes, keeps eight bytes of each file and is opened again (X).
type step struct {
	what byte
	s    string
}

// follow a step, by the journal and in its story.
func follow(t *testing.T, j api.Journal, s story, x step) (api.Journal, story) {
	t.Helper()
	var e api.Errno
	switch x.what {
	case 'A':
		j, e = Add(j, []byte(x.s))
		s.entries = append(slices.Clone(s.entries), x.s)
	case 'S':
		j, e = Sync(j)
		s.synced = len(s.entries)
	case 'R':
		j, e = Rotate(j, []byte(x.s))
		s = story{snapshot: x.s, at: 1 - s.at, gen: s.gen + 1}
	case 'X':
		return reopen(t, j, s, [2]int{8, 8})
	}
	if e != api.OK || j.At != s.at || j.Gen != s.gen {
		t.Fatalf("step %c: At %d, Gen %d, error %d", x.what, j.At, j.Gen, e)
	}
	return j, s
}

// begun is an empty disk's journal and its story.
func begun(t *testing.T) (api.Journal, story) {
	t.Helper()
	return reopen(t, api.Journal{}, story{gen: 1}, [2]int{})
}

// Any five steps, and any crash behind each of them.
func TestP103AnySteps(t *testing.T) {
	steps := []step{{'A', "a"}, {'A', "bcd"}, {'S', ""}, {'R', "snap"}, {'R', ""}, {'X', ""}}
	var keeps [][2]int
	for _, one := range []int{-1, 0, 3, 7, 8, 16, 18} {
		keeps = append(keeps, [2]int{one, 0}, [2]int{0, one}, [2]int{one, 99})
	}
	var goOn func(j api.Journal, s story, more int)
	goOn = func(j api.Journal, s story, more int) {
		for _, keep := range keeps {
			reopen(t, j, s, keep)
		}
		if more == 0 {
			return
		}
		for _, x := range steps {
			n, next := follow(t, j, s, x)
			goOn(n, next, more-1)
		}
	}
	j, s := begun(t)
	goOn(j, s, 4)
	// From a second file that was rotated to, with entries lost behind it.
	for _, x := range []step{{'A', "old"}, {'R', "second"}, {'A', "xy"}, {'S', ""}, {'A', "z"}} {
		j, s = follow(t, j, s, x)
	}
	goOn(j, s, 4)
}

// A crash that keeps any part of what wasn't synced.
func TestP103EachKeep(t *testing.T) {
	j, s := begun(t)
	for _, x := range []step{{'A', "first"}, {'S', ""}, {'A', "a"}, {'A', many(30)}, {'A', "bc"}, {'A', "d"}} {
		j, s = follow(t, j, s, x)
	}
	for range 3 {
		tail := len(j.Disk.Files[j.At].Tail)
		told := 0
		for keep := -2; keep <= tail+2; keep++ {
			_, one := reopen(t, j, s, [2]int{keep, keep})
			if len(one.entries) < told || len(one.entries) < s.synced {
				t.Fatalf("keeping %d: %d entries, fewer kept %d", keep, len(one.entries), told)
			}
			told = len(one.entries)
		}
		if told != len(s.entries) {
			t.Fatalf("all was kept, %d entries of %d are told", told, len(s.entries))
		}
		for _, keep := range []int{math.MinInt, math.MaxInt} {
			reopen(t, j, s, [2]int{keep, keep})
		}
		for _, x := range []step{{'R', "next"}, {'A', "x"}, {'A', "yz"}} {
			j, s = follow(t, j, s, x)
		}
	}
}

// A crash at each byte of a rotation: the other file was cut to nothing, and so
// many bytes of its first record were kept.
func TestP103CrashInARotation(t *testing.T) {
	for _, snapshot := range []string{"", "s", "a snapshot", many(300)} {
		for _, other := range []file{{}, {"ju", "nk"}, {written(3, "older", "x", "y"), ""}, {written(3, "older", "x"), bytesA}, fileOf(mostFile, 0)} {
			for at := range 2 {
				p := plain{at: at, gen: 4}
				p.files[at], p.files[1-at] = file{written(4, "four", "a", "bc"), record("d") + record("efg")}, other
				j := lend(p, "").journal
				old := story{"four", []string{"a", "bc", "d", "efg"}, 2, at, 4}
				crashEachByte(t, j, old, snapshot)
			}
		}
	}
}

func crashEachByte(t *testing.T, j api.Journal, old story, snapshot string) {
	t.Helper()
	next := story{snapshot: snapshot, at: 1 - old.at, gen: old.gen + 1}
	first := record(headOf(uint64(next.gen), snapshot))
	d, e := disk.Cut(j.Disk, next.at, 0)
	if e != api.OK {
		t.Fatalf("Cut: error %d", e)
	}
	if d, e = disk.Write(d, next.at, []byte(first)); e != api.OK {
		t.Fatalf("Write: error %d", e)
	}
	amid := api.Journal{Disk: d, At: j.At, Gen: j.Gen}
	for kept := range len(first) + 1 {
		for _, own := range []int{0, 6, 7, 15, 16, 99} {
			var keep [2]int
			keep[old.at], keep[next.at] = own, kept
			if kept == len(first) {
				n, snapshot, entries, e := Open(Crash(amid, keep))
				if !next.told(reply{n, snapshot, entries, e}) {
					t.Fatalf("a whole first record was kept: %v", reply{n, snapshot, entries, e})
				}
				continue
			}
			n, s := reopen(t, amid, old, keep)
			// It goes on from there, and a rotation ends this time.
			for _, x := range []step{{'A', "on"}, {'S', ""}, {'R', snapshot}, {'A', "more"}, {'X', ""}} {
				n, s = follow(t, n, s, x)
			}
		}
	}
	whole, e := Rotate(j, []byte(snapshot))
	if e != api.OK {
		t.Fatalf("Rotate: error %d", e)
	}
	for _, keep := range [][2]int{{0, 0}, {-1, 99}, {99, -1}, {99, 99}} {
		reopen(t, whole, next, keep)
	}
}

// A file whose end was torn goes on behind what was whole.
func TestP103OnBehindATornEnd(t *testing.T) {
	j, s := begun(t)
	for i := range 60 {
		j, s = follow(t, j, s, step{'A', fmt.Sprint("kept ", i)})
		if i%3 == 0 {
			j, s = follow(t, j, s, step{'S', ""})
		}
		j, s = follow(t, j, s, step{'A', many(20)})
		keep := 12 + i%30
		j, s = reopen(t, j, s, [2]int{keep, keep})
		if i%10 == 9 {
			j, s = follow(t, j, s, step{'R', fmt.Sprint("snapshot ", i)})
		}
	}
}

// Long runs, up to full files.
func TestP103ByChance(t *testing.T) {
	r := rand.New(rand.NewPCG(10, 3))
	for range 20 {
		j, s := begun(t)
		for range 60 {
			switch r.IntN(10) {
			case 0:
				j, s = follow(t, j, s, step{'S', ""})
			case 1:
				j, s = reopen(t, j, s, [2]int{r.IntN(9000) - 10, r.IntN(9000) - 10})
			case 2:
				if r.IntN(3) == 0 {
					j, s = follow(t, j, s, step{'R', someOf(r, r.IntN(4001))})
				}
			default:
				entry := someOf(r, 1+r.IntN(4000))
				if len(disk.Read(j.Disk, j.At))+6+len(entry) <= mostFile {
					j, s = follow(t, j, s, step{'A', entry})
				} else if _, e := Add(j, []byte(entry)); e != api.ErrFull {
					t.Fatalf("Add to a full file: error %d", e)
				}
			}
		}
		reopen(t, j, s, [2]int{r.IntN(mostFile), r.IntN(mostFile)})
		reopen(t, j, s, [2]int{})
		reopen(t, j, s, [2]int{mostFile, mostFile})
	}
}

// someOf all bytes, so many.
func someOf(r *rand.Rand, n int) string {
	b := make([]byte, n)
	for i := range b {
		b[i] = byte(r.Uint32())
	}
	return string(b)
}
