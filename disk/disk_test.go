package disk

import (
	"bytes"
	"fmt"
	"math"
	"math/rand/v2"
	"slices"
	"strings"
	"sync"
	"testing"

	"checkroll/api"
)

// most is how many bytes a file has at most.
const most = 65536

// The functions are those that the chapter lists.
var (
	_ func(api.Disk) bool                               = Right
	_ func(api.Disk, int, []byte) (api.Disk, api.Errno) = Write
	_ func(api.Disk, int) (api.Disk, api.Errno)         = Sync
	_ func(api.Disk, int, int) (api.Disk, api.Errno)    = Cut
	_ func(api.Disk, int) []byte                        = Read
	_ func(api.Disk, [2]int) api.Disk                   = Crash
)

// file is what lasts of a file and what may not, as texts.
type file struct{ safe, tail string }

// plain is a disk as texts, which nobody can change.
type plain [2]file

func (p plain) texts() []string {
	return []string{p[0].safe, p[0].tail, p[1].safe, p[1].tail}
}

func (p plain) right() bool {
	return len(p[0].safe)+len(p[0].tail) <= most && len(p[1].safe)+len(p[1].tail) <= most
}

// may tells whether the disk is right, and has the file.
func (p plain) may(at int) bool { return p.right() && (at == 0 || at == 1) }

// wantWrite and its like say in the chapter's words what is answered.
func wantWrite(p plain, at int, b string) (plain, api.Errno) {
	if !p.may(at) {
		return p, api.ErrArg
	}
	if len(p[at].safe+p[at].tail+b) > most {
		return p, api.ErrFull
	}
	p[at].tail += b
	return p, api.OK
}

func wantSync(p plain, at int) (plain, api.Errno) {
	if !p.may(at) {
		return p, api.ErrArg
	}
	p[at] = file{safe: p[at].safe + p[at].tail}
	return p, api.OK
}

func wantCut(p plain, at, n int) (plain, api.Errno) {
	if !p.may(at) {
		return p, api.ErrArg
	}
	s := p[at].safe + p[at].tail
	if n < 0 || n > len(s) {
		return p, api.ErrArg
	}
	p[at] = file{safe: s[:n]}
	return p, api.OK
}

func wantRead(p plain, at int) string {
	if !p.may(at) {
		return ""
	}
	return p[at].safe + p[at].tail
}

func wantCrash(p plain, keep [2]int) plain {
	if !p.right() {
		return p
	}
	for i := range p {
		kept := 0
		for kept < keep[i] && kept < len(p[i].tail) {
			kept++
		}
		p[i] = file{safe: p[i].safe + p[i].tail[:kept]}
	}
	return p
}

// lent is memory that is handed in: a disk's four slices and some bytes, in a
// row, so that the spare room of each is where the next ones stand.
type lent struct {
	all  []byte
	disk api.Disk
	b    []byte
}

func lend(p plain, b string) lent {
	const amid = "what stands beside it"
	texts := append(p.texts(), b)
	l := lent{all: []byte(amid + strings.Join(texts, "") + amid)}
	from := len(amid)
	next := func() []byte {
		begin := from
		from += len(texts[0])
		texts = texts[1:]
		return l.all[begin:from]
	}
	for i := range l.disk.Files {
		l.disk.Files[i] = api.File{Safe: next(), Tail: next()}
	}
	l.b = next()
	return l
}

// slicesOf a disk, in the order of plain's texts.
func slicesOf(d api.Disk) [][]byte {
	return [][]byte{d.Files[0].Safe, d.Files[0].Tail, d.Files[1].Safe, d.Files[1].Tail}
}

// same texts as the slices have?
func same(l [][]byte, texts []string) bool {
	return slices.EqualFunc(l, texts, func(b []byte, s string) bool { return string(b) == s })
}

// show texts, the first bytes of them alone where they are many.
func show(texts []string) string {
	var b strings.Builder
	for _, s := range texts {
		fmt.Fprintf(&b, "[%d bytes %q]", len(s), s[:min(len(s), 12)])
	}
	return b.String()
}

func showSlices(l [][]byte) string {
	var texts []string
	for _, b := range l {
		texts = append(texts, string(b))
	}
	return show(texts)
}

// hold what a call answers, by its slices and its error, against what it should
// answer. What is handed in stays as it is, its spare room too; the answer
// shares no memory with it, and no two slices of the answer share any.
func hold(t *testing.T, name string, p plain, b string, want []string, wantE api.Errno, do func(d api.Disk, b []byte) ([][]byte, api.Errno)) {
	t.Helper()
	name = fmt.Sprintf("%s, the disk %s", name, show(p.texts()))
	in := lend(p, b)
	before := bytes.Clone(in.all)
	got, e := do(in.disk, in.b)
	if !same(got, want) || e != wantE {
		t.Fatalf("%s\n got %s, error %d\nwant %s, error %d", name, showSlices(got), e, show(want), wantE)
	}
	if !bytes.Equal(in.all, before) {
		t.Fatalf("%s: what was handed in isn't as it was", name)
	}
	scribble(in.all, 0xEE)
	if !same(got, want) {
		t.Fatalf("%s: the answer shares memory with what was handed in", name)
	}
	for i, one := range got {
		scribble(one[:cap(one)], byte(i))
	}
	for i, one := range got {
		if !filled(one[:cap(one)], byte(i)) {
			t.Fatalf("%s: two slices of the answer share memory", name)
		}
	}
	if !filled(in.all, 0xEE) {
		t.Fatalf("%s: the answer's spare room is in what was handed in", name)
	}
}

func scribble(b []byte, one byte) {
	for i := range b {
		b[i] = one
	}
}

func filled(b []byte, one byte) bool { return bytes.Count(b, []byte{one}) == len(b) }

func holdWrite(t *testing.T, p plain, at int, b string) {
	t.Helper()
	want, wantE := wantWrite(p, at, b)
	name := fmt.Sprintf("Write to %d of %d bytes", at, len(b))
	hold(t, name, p, b, want.texts(), wantE, func(d api.Disk, b []byte) ([][]byte, api.Errno) {
		d, e := Write(d, at, b)
		return slicesOf(d), e
	})
}

func holdSync(t *testing.T, p plain, at int) {
	t.Helper()
	want, wantE := wantSync(p, at)
	hold(t, fmt.Sprintf("Sync of %d", at), p, "", want.texts(), wantE, func(d api.Disk, _ []byte) ([][]byte, api.Errno) {
		d, e := Sync(d, at)
		return slicesOf(d), e
	})
}

func holdCut(t *testing.T, p plain, at, n int) {
	t.Helper()
	want, wantE := wantCut(p, at, n)
	hold(t, fmt.Sprintf("Cut of %d at %d", at, n), p, "", want.texts(), wantE, func(d api.Disk, _ []byte) ([][]byte, api.Errno) {
		d, e := Cut(d, at, n)
		return slicesOf(d), e
	})
}

func holdRead(t *testing.T, p plain, at int) {
	t.Helper()
	hold(t, fmt.Sprintf("Read of %d", at), p, "", []string{wantRead(p, at)}, api.OK, func(d api.Disk, _ []byte) ([][]byte, api.Errno) {
		return [][]byte{Read(d, at)}, api.OK
	})
}

func holdCrash(t *testing.T, p plain, keep [2]int) {
	t.Helper()
	hold(t, fmt.Sprintf("Crash keeping %d", keep), p, "", wantCrash(p, keep).texts(), api.OK, func(d api.Disk, _ []byte) ([][]byte, api.Errno) {
		return slicesOf(Crash(d, keep)), api.OK
	})
}

func holdRight(t *testing.T, p plain) {
	t.Helper()
	hold(t, "Right", p, "", nil, api.OK, func(d api.Disk, _ []byte) ([][]byte, api.Errno) {
		if got := Right(d); got != p.right() {
			t.Fatalf("Right of %s: %v", show(p.texts()), got)
		}
		return nil, api.OK
	})
}

// diskOf is a disk that is written "safe|tail safe|tail".
func diskOf(s string) plain {
	var p plain
	for i, one := range strings.Split(s, " ") {
		safe, tail, _ := strings.Cut(one, "|")
		p[i] = file{safe, tail}
	}
	return p
}

// many bytes that are told apart by where they stand.
func many(n int) string {
	const from = "0123456789abcdefghijklmnopqrstuvwxyzABCDEFGHIJKLMNOPQRSTUVWXYZ+"
	return strings.Repeat(from, n/len(from)+1)[:n]
}

// fileOf so many bytes that last, and so many that may not.
func fileOf(safe, tail int) file {
	s := many(safe + tail)
	return file{s[:safe], s[safe:]}
}

// noFiles are numbers of no file.
var noFiles = []int{-1, 2, -2, 3, 255, 256, 1 << 16, 1 << 32, 1<<32 + 1, -1 << 32, math.MinInt, math.MinInt + 1, math.MaxInt, math.MaxInt - 1}

// numbers that are far from any file's length.
var far = []int{math.MinInt, math.MinInt + 1, -1 << 32, 1 << 32, 1<<32 + 1, math.MaxInt - 1, math.MaxInt}

// expectDisk that is known, and its error.
func expectDisk(t *testing.T, name string, got api.Disk, e api.Errno, want plain, wantE api.Errno) {
	t.Helper()
	if !same(slicesOf(got), want.texts()) || e != wantE {
		t.Errorf("%s\n got %s, error %d\nwant %s, error %d", name, showSlices(slicesOf(got)), e, show(want.texts()), wantE)
	}
}

func TestP91Example(t *testing.T) {
	var d api.Disk
	d, e := Write(d, 0, []byte("ab"))
	expectDisk(t, "Write ab", d, e, diskOf("|ab |"), api.OK)
	d, e = Sync(d, 0)
	expectDisk(t, "Sync", d, e, diskOf("ab| |"), api.OK)
	d, e = Write(d, 0, []byte("cd"))
	expectDisk(t, "Write cd", d, e, diskOf("ab|cd |"), api.OK)
	d = Crash(d, [2]int{1, 0})
	expectDisk(t, "Crash", d, api.OK, diskOf("abc| |"), api.OK)
	if got := Read(d, 0); string(got) != "abc" {
		t.Errorf("Read: %q", got)
	}
	if got := Read(d, 1); len(got) != 0 {
		t.Errorf("Read of the other file: %q", got)
	}
}

func TestP91SeveralParts(t *testing.T) {
	for at := range 2 {
		var d api.Disk
		other := fileOf(3, 4)
		d.Files[1-at] = api.File{Safe: []byte(other.safe), Tail: []byte(other.tail)}
		var all string
		synced := 0
		for i, part := range []string{"a", "bc", "", "def", "g", many(1000), "\x00\xff", "h"} {
			var e api.Errno
			if d, e = Write(d, at, []byte(part)); e != api.OK {
				t.Fatalf("Write of part %d: error %d", i, e)
			}
			all += part
			if i%3 == 2 {
				if d, e = Sync(d, at); e != api.OK {
					t.Fatalf("Sync behind part %d: error %d", i, e)
				}
				synced = len(all)
			}
			var want plain
			want[at], want[1-at] = file{all[:synced], all[synced:]}, other
			expectDisk(t, fmt.Sprintf("part %d", i), d, api.OK, want, api.OK)
			if got := Read(d, at); string(got) != all {
				t.Errorf("Read behind part %d: %.40q, want %.40q", i, got, all)
			}
			if got := Read(d, 1-at); string(got) != other.safe+other.tail {
				t.Errorf("Read of the other file behind part %d: %q", i, got)
			}
		}
	}
}

func TestP91WriteKnown(t *testing.T) {
	for _, x := range []struct {
		disk string
		at   int
		b    string
		want string
		e    api.Errno
	}{
		{"| |", 0, "", "| |", api.OK},
		{"| |", 0, "a", "|a |", api.OK},
		{"| |", 1, "a", "| |a", api.OK},
		{"ab| xy|", 0, "cd", "ab|cd xy|", api.OK},
		{"ab| xy|", 1, "cd", "ab| xy|cd", api.OK},
		{"|ab |xy", 0, "cd", "|abcd |xy", api.OK},
		{"|ab |xy", 1, "cd", "|ab |xycd", api.OK},
		{"ab|cd xy|z", 0, "e", "ab|cde xy|z", api.OK},
		{"ab|cd xy|z", 1, "e", "ab|cd xy|ze", api.OK},
		{"ab|cd xy|z", 1, "", "ab|cd xy|z", api.OK},
		{"ab|cd xy|z", 1, "\x00\xff\n", "ab|cd xy|z\x00\xff\n", api.OK},
		{"ab|cd xy|z", 2, "e", "ab|cd xy|z", api.ErrArg},
		{"ab|cd xy|z", -1, "e", "ab|cd xy|z", api.ErrArg},
		{"ab|cd xy|z", 2, "", "ab|cd xy|z", api.ErrArg},
	} {
		p, want := diskOf(x.disk), diskOf(x.want)
		if own, e := wantWrite(p, x.at, x.b); own != want || e != x.e {
			t.Fatalf("the test's own Write of %q to %d of %q: %q, error %d", x.b, x.at, x.disk, own, e)
		}
		holdWrite(t, p, x.at, x.b)
	}
}

func TestP91SyncKnown(t *testing.T) {
	for _, x := range []struct {
		disk string
		at   int
		want string
		e    api.Errno
	}{
		{"| |", 0, "| |", api.OK},
		{"| |", 1, "| |", api.OK},
		{"ab| xy|", 0, "ab| xy|", api.OK},
		{"|ab |xy", 0, "ab| |xy", api.OK},
		{"|ab |xy", 1, "|ab xy|", api.OK},
		{"ab|cd xy|z", 0, "abcd| xy|z", api.OK},
		{"ab|cd xy|z", 1, "ab|cd xyz|", api.OK},
		{"ab|cd xy|", 1, "ab|cd xy|", api.OK},
		{"ab|cd xy|z", 2, "ab|cd xy|z", api.ErrArg},
		{"ab|cd xy|z", -1, "ab|cd xy|z", api.ErrArg},
	} {
		p, want := diskOf(x.disk), diskOf(x.want)
		if own, e := wantSync(p, x.at); own != want || e != x.e {
			t.Fatalf("the test's own Sync of %d of %q: %q, error %d", x.at, x.disk, own, e)
		}
		holdSync(t, p, x.at)
	}
}

func TestP91CutKnown(t *testing.T) {
	for _, x := range []struct {
		disk  string
		at, n int
		want  string
		e     api.Errno
	}{
		{"| |", 0, 0, "| |", api.OK},
		{"| |", 0, 1, "| |", api.ErrArg},
		{"| |", 0, -1, "| |", api.ErrArg},
		{"abc|de xy|z", 0, 0, "| xy|z", api.OK},
		{"abc|de xy|z", 0, 1, "a| xy|z", api.OK},
		{"abc|de xy|z", 0, 2, "ab| xy|z", api.OK},
		{"abc|de xy|z", 0, 3, "abc| xy|z", api.OK},
		{"abc|de xy|z", 0, 4, "abcd| xy|z", api.OK},
		{"abc|de xy|z", 0, 5, "abcde| xy|z", api.OK},
		{"abc|de xy|z", 0, 6, "abc|de xy|z", api.ErrArg},
		{"abc|de xy|z", 0, -1, "abc|de xy|z", api.ErrArg},
		{"abc|de xy|z", 1, 0, "abc|de |", api.OK},
		{"abc|de xy|z", 1, 2, "abc|de xy|", api.OK},
		{"abc|de xy|z", 1, 3, "abc|de xyz|", api.OK},
		{"abc|de xy|z", 1, 4, "abc|de xy|z", api.ErrArg},
		{"|abc |", 0, 2, "ab| |", api.OK},
		{"abc| |", 0, 2, "ab| |", api.OK},
		{"abc|de xy|z", 2, 0, "abc|de xy|z", api.ErrArg},
		{"abc|de xy|z", -1, 0, "abc|de xy|z", api.ErrArg},
	} {
		p, want := diskOf(x.disk), diskOf(x.want)
		if own, e := wantCut(p, x.at, x.n); own != want || e != x.e {
			t.Fatalf("the test's own Cut of %d at %d of %q: %q, error %d", x.at, x.n, x.disk, own, e)
		}
		holdCut(t, p, x.at, x.n)
	}
}

func TestP91ReadKnown(t *testing.T) {
	for _, x := range []struct {
		disk string
		at   int
		want string
	}{
		{"| |", 0, ""},
		{"| |", 1, ""},
		{"ab| xy|", 0, "ab"},
		{"|ab |xy", 1, "xy"},
		{"ab|cd xy|z", 0, "abcd"},
		{"ab|cd xy|z", 1, "xyz"},
		{"ab|cd xy|z", 2, ""},
		{"ab|cd xy|z", -1, ""},
	} {
		p := diskOf(x.disk)
		if own := wantRead(p, x.at); own != x.want {
			t.Fatalf("the test's own Read of %d of %q: %q", x.at, x.disk, own)
		}
		holdRead(t, p, x.at)
	}
}

func TestP91CrashKnown(t *testing.T) {
	for _, x := range []struct {
		disk string
		keep [2]int
		want string
	}{
		{"| |", [2]int{0, 0}, "| |"},
		{"| |", [2]int{5, 5}, "| |"},
		{"| |", [2]int{-5, -5}, "| |"},
		{"abc|def xyz|uvw", [2]int{0, 0}, "abc| xyz|"},
		{"abc|def xyz|uvw", [2]int{1, 0}, "abcd| xyz|"},
		{"abc|def xyz|uvw", [2]int{0, 1}, "abc| xyzu|"},
		{"abc|def xyz|uvw", [2]int{1, 2}, "abcd| xyzuv|"},
		{"abc|def xyz|uvw", [2]int{2, 3}, "abcde| xyzuvw|"},
		{"abc|def xyz|uvw", [2]int{3, 2}, "abcdef| xyzuv|"},
		{"abc|def xyz|uvw", [2]int{4, 0}, "abcdef| xyz|"},
		{"abc|def xyz|uvw", [2]int{-1, 4}, "abc| xyzuvw|"},
		{"abc|def xyz|uvw", [2]int{4, -1}, "abcdef| xyz|"},
		{"abc|def xyz|uvw", [2]int{math.MinInt, math.MaxInt}, "abc| xyzuvw|"},
		{"abc|def xyz|uvw", [2]int{math.MaxInt, math.MinInt}, "abcdef| xyz|"},
		{"|def xyz|", [2]int{2, 2}, "de| xyz|"},
		{"abc| |uvw", [2]int{2, 2}, "abc| uv|"},
	} {
		p, want := diskOf(x.disk), diskOf(x.want)
		if own := wantCrash(p, x.keep); own != want {
			t.Fatalf("the test's own Crash of %q keeping %d: %q", x.disk, x.keep, own)
		}
		holdCrash(t, p, x.keep)
	}
}

// smallDisks are all disks whose slices have at most so many bytes.
func smallDisks(bytesOf int) []plain {
	var l []plain
	files := func(from string) []file {
		var l []file
		for safe := range bytesOf + 1 {
			for tail := range bytesOf + 1 {
				l = append(l, file{from[:safe], from[safe : safe+tail]})
			}
		}
		return l
	}
	for _, one := range files("abcdefgh") {
		for _, other := range files("stuvwxyz") {
			l = append(l, plain{one, other})
		}
	}
	return l
}

func TestP91EachSmallDisk(t *testing.T) {
	for _, p := range smallDisks(3) {
		holdRight(t, p)
		for at := -1; at <= 2; at++ {
			holdSync(t, p, at)
			holdRead(t, p, at)
			for _, b := range []string{"", "1", "23", "456"} {
				holdWrite(t, p, at, b)
			}
			for n := -2; n <= 8; n++ {
				holdCut(t, p, at, n)
			}
		}
		for one := -1; one <= 4; one++ {
			for other := -1; other <= 4; other++ {
				holdCrash(t, p, [2]int{one, other})
			}
		}
	}
}

func TestP91FarNumbers(t *testing.T) {
	for _, p := range []plain{{}, diskOf("abc|def xyz|uv"), {fileOf(most/2, most/2), fileOf(0, most)}} {
		for _, n := range far {
			holdCut(t, p, 0, n)
			holdCut(t, p, 1, n)
			for _, other := range []int{0, 1, math.MinInt, math.MaxInt} {
				holdCrash(t, p, [2]int{n, other})
				holdCrash(t, p, [2]int{other, n})
			}
		}
	}
}

// splits are files of so many bytes in all.
func splits(all int) []file {
	return []file{fileOf(all, 0), fileOf(0, all), fileOf(1, all-1), fileOf(all-1, 1), fileOf(all/2, all-all/2)}
}

// The bound is that of Safe and Tail together, and of each file alone.
func TestP91RightAtTheBound(t *testing.T) {
	others := []file{{}, fileOf(1, 1), fileOf(most, 0), fileOf(0, most), fileOf(most/2, most/2)}
	for all, want := range map[int]bool{
		1: true, most / 2: true, most - 1: true, most: true,
		most + 1: false, most + 2: false, 2 * most: false, 1 << 20: false,
	} {
		for _, one := range splits(all) {
			for _, other := range others {
				for _, p := range []plain{{one, other}, {other, one}} {
					if p.right() != want {
						t.Fatalf("the test's own Right of %s", show(p.texts()))
					}
					holdRight(t, p)
				}
			}
			holdRight(t, plain{one, one})
		}
	}
	if !Right(api.Disk{}) {
		t.Error("Right of an empty disk: false")
	}
	// Spare room doesn't count.
	spare := make([]byte, 10, 4*most)
	if d := (api.Disk{Files: [2]api.File{{Safe: spare, Tail: spare}, {Tail: spare}}}); !Right(d) {
		t.Error("Right of a disk with spare room: false")
	}
}

func TestP91WriteRoom(t *testing.T) {
	for _, all := range []int{1, 100, most / 2, most - 2, most - 1, most} {
		room := most - all
		for _, one := range splits(all) {
			for _, other := range []file{{}, fileOf(3, 4), fileOf(most/2, most/2)} {
				for at := range 2 {
					var p plain
					p[at], p[1-at] = one, other
					for _, n := range []int{0, 1, room - 1, room, room + 1, room + 2, most, most + 1} {
						if n < 0 {
							continue
						}
						d, e := Write(lend(p, "").disk, at, []byte(many(n)))
						if (n <= room) != (e == api.OK) || (n > room) != (e == api.ErrFull) {
							t.Fatalf("Write of %d bytes where %d have room: error %d", n, room, e)
						}
						if !Right(d) {
							t.Fatalf("Write of %d bytes where %d have room makes a disk that isn't right", n, room)
						}
						holdWrite(t, p, at, many(n))
					}
				}
			}
		}
	}
	for _, n := range []int{most - 1, most, most + 1, 2 * most, 1 << 20} {
		holdWrite(t, plain{}, 0, many(n))
		holdWrite(t, plain{}, 1, many(n))
	}
}

// What is cut off or lost makes room again.
func TestP91RoomAgain(t *testing.T) {
	full := plain{fileOf(most-10, 10), fileOf(0, most)}
	for at := range 2 {
		cut, e := Cut(lend(full, "").disk, at, most-7)
		if e != api.OK {
			t.Fatalf("Cut: error %d", e)
		}
		lost := Crash(lend(full, "").disk, [2]int{3, most - 7})
		for _, d := range []api.Disk{cut, lost} {
			if _, e := Write(d, at, []byte("12345678")); e != api.ErrFull {
				t.Errorf("Write of one byte more: error %d", e)
			}
			d, e := Write(d, at, []byte("1234567"))
			if got := Read(d, at); e != api.OK || string(got) != many(most)[:most-7]+"1234567" {
				t.Errorf("Write of just what there is room for: error %d, %d bytes", e, len(got))
			}
		}
	}
}

func TestP91FullFiles(t *testing.T) {
	for _, all := range []int{most - 1, most} {
		for i, one := range splits(all) {
			p := plain{one, splits(all)[4-i]}
			for at := range 2 {
				holdSync(t, p, at)
				holdRead(t, p, at)
				safe := len(p[at].safe)
				for _, n := range []int{-1, 0, 1, safe - 1, safe, safe + 1, all - 1, all, all + 1, most, most + 1} {
					holdCut(t, p, at, n)
				}
			}
			tails := [2]int{len(p[0].tail), len(p[1].tail)}
			for _, keep := range [][2]int{
				{0, 0}, {-1, -1}, {1, 1}, {1, 0}, {0, 1}, tails,
				{tails[0] - 1, tails[1] - 1}, {tails[0] + 1, tails[1] + 1}, {most, most}, {most + 1, 0},
			} {
				holdCrash(t, p, keep)
			}
		}
	}
}

func TestP91NoSuchFile(t *testing.T) {
	for _, p := range []plain{{}, diskOf("ab|cd xy|z"), diskOf("|ab xy|"), {fileOf(most, 0), fileOf(9, most-9)}} {
		for _, at := range noFiles {
			d := lend(p, "").disk
			for _, b := range []string{"", "e", many(most), many(most + 1)} {
				got, e := Write(d, at, []byte(b))
				expectDisk(t, fmt.Sprintf("Write to %d", at), got, e, p, api.ErrArg)
				holdWrite(t, p, at, b)
			}
			got, e := Sync(d, at)
			expectDisk(t, fmt.Sprintf("Sync of %d", at), got, e, p, api.ErrArg)
			holdSync(t, p, at)
			for _, n := range []int{-1, 0, 1, most, most + 1, math.MinInt, math.MaxInt} {
				got, e = Cut(d, at, n)
				expectDisk(t, fmt.Sprintf("Cut of %d at %d", at, n), got, e, p, api.ErrArg)
				holdCut(t, p, at, n)
			}
			if b := Read(d, at); len(b) != 0 {
				t.Errorf("Read of %d: %d bytes", at, len(b))
			}
			holdRead(t, p, at)
		}
	}
}

// notRight are disks that aren't, by the one file, by the other, and by both.
func notRight() []plain {
	var l []plain
	for _, bad := range append(splits(most+1), fileOf(most, most), fileOf(3*most, 0), fileOf(5, 2*most)) {
		for _, other := range []file{{}, fileOf(2, 3), fileOf(most, 0)} {
			l = append(l, plain{bad, other}, plain{other, bad})
		}
		l = append(l, plain{bad, bad})
	}
	return l
}

func TestP91NotRight(t *testing.T) {
	for _, p := range notRight() {
		if Right(lend(p, "").disk) {
			t.Fatalf("Right of %s: true", show(p.texts()))
		}
		for _, at := range []int{0, 1, -1, 2, math.MinInt, math.MaxInt} {
			d := lend(p, "").disk
			// A disk that isn't right comes ahead of no room.
			for _, b := range []string{"", "e", many(most + 1)} {
				got, e := Write(d, at, []byte(b))
				expectDisk(t, fmt.Sprintf("Write to %d", at), got, e, p, api.ErrArg)
				holdWrite(t, p, at, b)
			}
			got, e := Sync(d, at)
			expectDisk(t, fmt.Sprintf("Sync of %d", at), got, e, p, api.ErrArg)
			holdSync(t, p, at)
			for _, n := range []int{-1, 0, 1, 2, 5, most} {
				got, e = Cut(d, at, n)
				expectDisk(t, fmt.Sprintf("Cut of %d at %d", at, n), got, e, p, api.ErrArg)
				holdCut(t, p, at, n)
			}
			if b := Read(d, at); len(b) != 0 {
				t.Errorf("Read of %d: %d bytes", at, len(b))
			}
			holdRead(t, p, at)
		}
		for _, keep := range [][2]int{{0, 0}, {1, 1}, {-1, -1}, {most, most}, {math.MaxInt, math.MinInt}} {
			expectDisk(t, "Crash", Crash(lend(p, "").disk, keep), api.OK, p, api.OK)
			holdCrash(t, p, keep)
		}
	}
}

// Nil and empty slices are alike.
func TestP91NoBytes(t *testing.T) {
	for _, none := range [][]byte{nil, {}, make([]byte, 0, 5)} {
		d := api.Disk{Files: [2]api.File{{Safe: none, Tail: none}, {Safe: none, Tail: none}}}
		if !Right(d) {
			t.Error("Right: false")
		}
		for at := range 2 {
			got, e := Write(d, at, none)
			expectDisk(t, "Write of nothing", got, e, plain{}, api.OK)
			got, e = Sync(d, at)
			expectDisk(t, "Sync of nothing", got, e, plain{}, api.OK)
			got, e = Cut(d, at, 0)
			expectDisk(t, "Cut of nothing", got, e, plain{}, api.OK)
			got, e = Cut(d, at, 1)
			expectDisk(t, "Cut above nothing", got, e, plain{}, api.ErrArg)
			if b := Read(d, at); len(b) != 0 {
				t.Errorf("Read of nothing: %q", b)
			}
			got, e = Write(d, at, []byte("a"))
			var want plain
			want[at].tail = "a"
			expectDisk(t, "Write of a", got, e, want, api.OK)
		}
		expectDisk(t, "Crash of nothing", Crash(d, [2]int{1, 1}), api.OK, plain{}, api.OK)
	}
}

// Slices that share their memory when they are handed in share none behind it.
func TestP91TheSameMemoryHandedIn(t *testing.T) {
	memory := []byte("abcdefghij")
	one := api.File{Safe: memory[:4], Tail: memory[:4]}
	other := api.File{Safe: memory[2:6], Tail: memory[3:3]}
	d := api.Disk{Files: [2]api.File{one, other}}
	answers := []api.Disk{}
	wants := []plain{}
	add := func(d api.Disk, e api.Errno, want string) {
		t.Helper()
		expectDisk(t, "the same memory", d, e, diskOf(want), api.OK)
		answers, wants = append(answers, d), append(wants, diskOf(want))
	}
	n, e := Write(d, 0, d.Files[0].Tail)
	add(n, e, "abcd|abcdabcd cdef|")
	n, e = Write(d, 1, memory[:3])
	add(n, e, "abcd|abcd cdef|abc")
	n, e = Sync(d, 0)
	add(n, e, "abcdabcd| cdef|")
	n, e = Cut(d, 0, 5)
	add(n, e, "abcda| cdef|")
	add(Crash(d, [2]int{2, 2}), api.OK, "abcdab| cdef|")
	read := Read(d, 0)
	if string(memory) != "abcdefghij" {
		t.Errorf("what was handed in is %q", memory)
	}
	scribble(memory, '!')
	for i := range answers {
		expectDisk(t, "behind a scribble", answers[i], api.OK, wants[i], api.OK)
	}
	if string(read) != "abcdabcd" {
		t.Errorf("Read: %q", read)
	}
	for i, d := range answers {
		for j, one := range slicesOf(d) {
			scribble(one[:cap(one)], byte(4*i+j))
		}
	}
	for i, d := range answers {
		for j, one := range slicesOf(d) {
			if !filled(one[:cap(one)], byte(4*i+j)) {
				t.Errorf("answer %d shares its slice %d", i, j)
			}
		}
	}
}

// What was answered stays as it was, whatever is called behind it, and a call
// answers the same each time.
func TestP91AnswersStay(t *testing.T) {
	p := diskOf("abc|def xyz|uvw")
	d := lend(p, "").disk
	type answer struct {
		d    api.Disk
		want plain
	}
	var l []answer
	for range 3 {
		w, _ := Write(d, 0, []byte("gh"))
		l = append(l, answer{w, diskOf("abc|defgh xyz|uvw")})
		ww, _ := Write(w, 0, []byte("ij"))
		l = append(l, answer{ww, diskOf("abc|defghij xyz|uvw")})
		// Two disks go on from one, each by itself.
		wx, _ := Write(w, 0, []byte("kl"))
		l = append(l, answer{wx, diskOf("abc|defghkl xyz|uvw")})
		s, _ := Sync(w, 0)
		l = append(l, answer{s, diskOf("abcdefgh| xyz|uvw")})
		sw, _ := Write(s, 0, []byte("m"))
		l = append(l, answer{sw, diskOf("abcdefgh|m xyz|uvw")})
		ss, _ := Sync(sw, 0)
		l = append(l, answer{ss, diskOf("abcdefghm| xyz|uvw")})
		c, _ := Cut(w, 1, 4)
		l = append(l, answer{c, diskOf("abc|defgh xyzu|")})
		cs, _ := Sync(c, 0)
		l = append(l, answer{cs, diskOf("abcdefgh| xyzu|")})
		l = append(l, answer{Crash(w, [2]int{4, 1}), diskOf("abcdefg| xyzu|")})
		bad, _ := Cut(w, 0, -1)
		l = append(l, answer{bad, diskOf("abc|defgh xyz|uvw")})
	}
	for i, x := range l {
		expectDisk(t, fmt.Sprintf("answer %d", i), x.d, api.OK, x.want, api.OK)
	}
	expectDisk(t, "what was handed in", d, api.OK, p, api.OK)
}

// What is answered is the caller's own: to change it changes no other answer.
func TestP91ReadIsNewEachTime(t *testing.T) {
	d := lend(diskOf("abc|def xyz|uvw"), "").disk
	one, other := Read(d, 0), Read(d, 0)
	scribble(one[:cap(one)], '!')
	if string(other) != "abcdef" || string(Read(d, 0)) != "abcdef" {
		t.Errorf("another Read: %q", other)
	}
}

func TestP91AtTheSameTime(t *testing.T) {
	p := plain{fileOf(100, 50), fileOf(30, 70)}
	d := lend(p, "").disk
	var wait sync.WaitGroup
	for at := range 16 {
		wait.Go(func() {
			for i := range 200 {
				b := strings.Repeat(string(rune('a'+at)), i)
				got, e := Write(d, at%2, []byte(b))
				want, _ := wantWrite(p, at%2, b)
				expectDisk(t, "Write at the same time", got, e, want, api.OK)
				got = Crash(got, [2]int{i, at})
				expectDisk(t, "Crash at the same time", got, api.OK, wantCrash(want, [2]int{i, at}), api.OK)
				if t.Failed() {
					return
				}
			}
		})
	}
	wait.Wait()
}

// past is what a file has seen: all that was written and not cut off or lost,
// and how much of it was synced.
type past struct {
	written string
	synced  int
}

// step is what is done to a file: w is written, or it is synced ("S"), cut by
// a byte ("C"), or the disk crashes, keeping a byte of each Tail ("X").
type step struct {
	at   int
	what string
}

// follow a step, on the disk and in what its files have seen.
func follow(t *testing.T, d api.Disk, seen [2]past, s step) (api.Disk, [2]past) {
	t.Helper()
	e := api.OK
	f := &seen[s.at]
	switch s.what {
	case "S":
		d, e = Sync(d, s.at)
		f.synced = len(f.written)
	case "C":
		n := max(len(f.written)-1, 0)
		d, e = Cut(d, s.at, n)
		*f = past{f.written[:n], n}
	case "X":
		d = Crash(d, [2]int{1, 1})
		for i := range seen {
			f := &seen[i]
			n := min(f.synced+1, len(f.written))
			*f = past{f.written[:n], n}
		}
	default:
		d, e = Write(d, s.at, []byte(s.what))
		f.written += s.what
	}
	if e != api.OK {
		t.Fatalf("step %.20q of file %d: error %d", s.what, s.at, e)
	}
	return d, seen
}

// lasts holds against any crash that keeps from these: what was synced is read
// behind it, what is read is a beginning of what was written, and nothing may
// be lost of it any more.
func lasts(t *testing.T, d api.Disk, seen [2]past, keeps []int) {
	t.Helper()
	for _, one := range keeps {
		for _, other := range keeps {
			keep := [2]int{one, other}
			crashed := Crash(d, keep)
			again := Crash(crashed, [2]int{-1, 0})
			for at, f := range seen {
				read := string(Read(crashed, at))
				if !strings.HasPrefix(read, f.written[:f.synced]) {
					t.Fatalf("file %d behind a crash keeping %d: %.40q, synced were %.40q", at, keep, read, f.written[:f.synced])
				}
				if !strings.HasPrefix(f.written, read) {
					t.Fatalf("file %d behind a crash keeping %d: %.40q, written were %.40q", at, keep, read, f.written)
				}
				if want := min(max(keep[at], 0), len(f.written)-f.synced); len(read) != f.synced+want {
					t.Fatalf("file %d behind a crash keeping %d: %d bytes, synced were %d of %d", at, keep, len(read), f.synced, len(f.written))
				}
				if string(Read(again, at)) != read {
					t.Fatalf("file %d behind a second crash isn't as it was behind the first", at)
				}
			}
		}
	}
}

// Any five steps, and any crash behind each of them.
func TestP92AnySteps(t *testing.T) {
	steps := []step{{0, "ab"}, {0, "S"}, {0, "C"}, {1, "xyz"}, {1, "S"}, {0, "X"}}
	keeps := []int{-1, 0, 1, 2, 3, 20}
	var goOn func(d api.Disk, seen [2]past, more int)
	goOn = func(d api.Disk, seen [2]past, more int) {
		lasts(t, d, seen, keeps)
		for at, f := range seen {
			if string(Read(d, at)) != f.written || string(d.Files[at].Safe) != f.written[:f.synced] {
				t.Fatalf("file %d: %q, Safe %q, written were %q, synced %d", at, Read(d, at), d.Files[at].Safe, f.written, f.synced)
			}
		}
		if more == 0 {
			return
		}
		for _, s := range steps {
			next, nextSeen := follow(t, d, seen, s)
			goOn(next, nextSeen, more-1)
		}
	}
	goOn(api.Disk{}, [2]past{}, 5)
}

// Each crash of a file with a Tail keeps so many of its first bytes.
func TestP92EachKeep(t *testing.T) {
	d, seen := api.Disk{}, [2]past{}
	for _, s := range []step{{0, many(300)}, {0, "S"}, {0, many(40)}, {1, many(50)}} {
		d, seen = follow(t, d, seen, s)
	}
	var keeps []int
	for keep := -3; keep <= 55; keep++ {
		keeps = append(keeps, keep)
	}
	lasts(t, d, seen, append(keeps, far...))
}

// Long runs, up to full files.
func TestP92ByChance(t *testing.T) {
	r := rand.New(rand.NewPCG(9, 2))
	for range 40 {
		d, seen := api.Disk{}, [2]past{}
		for range 60 {
			at := r.IntN(2)
			switch r.IntN(5) {
			case 0:
				d, seen = follow(t, d, seen, step{at, "S"})
			case 1:
				d, seen = follow(t, d, seen, step{at, []string{"C", "X"}[r.IntN(2)]})
			default:
				b := someOf(r, r.IntN(4000))
				if len(seen[at].written)+len(b) > most {
					got, e := Write(d, at, []byte(b))
					p := plain{split(seen[0]), split(seen[1])}
					expectDisk(t, "a full file", got, e, p, api.ErrFull)
					continue
				}
				d, seen = follow(t, d, seen, step{at, b})
			}
			if !Right(d) {
				t.Fatal("the disk isn't right any more")
			}
		}
		lasts(t, d, seen, []int{-1, 0, 1, r.IntN(4000), r.IntN(most), most, most + 1})
	}
}

// split a file's past as it stands on the disk.
func split(f past) file { return file{f.written[:f.synced], f.written[f.synced:]} }

// someOf all bytes, so many.
func someOf(r *rand.Rand, n int) string {
	b := make([]byte, n)
	for i := range b {
		b[i] = byte(r.Uint32())
	}
	return string(b)
}
