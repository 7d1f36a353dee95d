package reseq

import (
	"fmt"
	"math"
	"math/rand/v2"
	"slices"
	"strings"
	"testing"

	"checkroll/api"
)

// most is the greatest number that an item and a line may have.
const most = int64(1) << 41

// item says something that tells it from each other one.
func item(from, to int64) api.Item {
	return api.Item{From: from, To: to, M: api.Msg{Kind: api.Beat, Seq: from, Text: fmt.Sprint(from, "-", to)}}
}

// one is an item of one number.
func one(n int64) api.Item { return item(n, n+1) }

// items are made of their From and To, in turn.
func items(bounds ...int64) []api.Item {
	var l []api.Item
	for i := 0; i < len(bounds); i += 2 {
		l = append(l, item(bounds[i], bounds[i+1]))
	}
	return l
}

// line is made of what is next, and From and To of what is held, in turn.
func line(next int64, held ...int64) api.Line { return api.Line{Next: next, Held: items(held...)} }

// ones are many items of one number, from a number on, with others between.
func ones(from int64, many int, apart int64) []api.Item {
	var l []api.Item
	for i := range int64(many) {
		l = append(l, one(from+i*apart))
	}
	return l
}

func sameLine(a, b api.Line) bool { return a.Next == b.Next && slices.Equal(a.Held, b.Held) }

// came is what Come answers.
type came struct {
	line api.Line
	told []api.Item
	kind int
}

func come(l api.Line, x api.Item) came {
	behind, told, kind := Come(l, x)
	return came{behind, told, kind}
}

func (a came) same(b came) bool {
	return sameLine(a.line, b.line) && slices.Equal(a.told, b.told) && a.kind == b.kind
}

func showItems(l []api.Item) string {
	var b strings.Builder
	for _, x := range l {
		fmt.Fprintf(&b, " %d-%d(%q)", x.From, x.To, x.M.Text)
	}
	return b.String()
}

func (a came) String() string {
	return fmt.Sprintf("kind %d, next %d, held%s, told%s", a.kind, a.line.Next, showItems(a.line.Held), showItems(a.told))
}

func showLine(l api.Line) string { return fmt.Sprintf("next %d, held%s", l.Next, showItems(l.Held)) }

// expect holds what an item comes to against what it should.
func expect(t *testing.T, l api.Line, x api.Item, want came) {
	t.Helper()
	if got := come(l, x); !got.same(want) {
		t.Fatalf("line %s\nitem %d-%d\n got %s\nwant %s", showLine(l), x.From, x.To, got, want)
	}
}

// wantMay says in the chapter's words whether an item may be.
func wantMay(x api.Item) bool {
	return x.From > 0 && x.To > x.From && !(x.From > most || x.To > most)
}

// wantRight says in the chapter's words whether a line is right: what is held
// is looked at each against each other, and each against what is next.
func wantRight(l api.Line) bool {
	if l.Next <= 0 || l.Next > most || len(l.Held) >= 65 {
		return false
	}
	for i, x := range l.Held {
		if !wantMay(x) || x.From <= l.Next {
			return false
		}
		for _, ahead := range l.Held[:i] {
			if ahead.From >= x.From {
				return false
			}
		}
	}
	return true
}

// wantCome says in the chapter's words what an item comes to; what is held
// stands by its From, and the least one is looked for each time.
func wantCome(l api.Line, x api.Item) came {
	held := map[int64]api.Item{}
	for _, y := range l.Held {
		held[y.From] = y
	}
	as := func(next int64, told []api.Item, kind int) came {
		var left []api.Item
		for len(held) > 0 {
			left = append(left, leastOut(held))
		}
		return came{api.Line{Next: next, Held: left}, told, kind}
	}
	_, there := held[x.From]
	switch {
	case !wantRight(l), !wantMay(x):
		return came{line: l}
	case x.To <= l.Next:
		return as(l.Next, nil, 3)
	case x.From > l.Next && there:
		return as(l.Next, nil, 3)
	case x.From > l.Next && len(held) == 64:
		return as(l.Next, nil, 4)
	case x.From > l.Next:
		held[x.From] = x
		return as(l.Next, nil, 2)
	}
	next, told := x.To, []api.Item{x}
	for len(held) > 0 {
		first := leastOut(held)
		if first.From > next {
			held[first.From] = first
			break
		}
		if first.To > next {
			next, told = first.To, append(told, first)
		}
	}
	return as(next, told, 1)
}

// leastOut takes out the item of the least From.
func leastOut(held map[int64]api.Item) api.Item {
	least := int64(math.MaxInt64)
	for from := range held {
		least = min(least, from)
	}
	x := held[least]
	delete(held, least)
	return x
}

func TestP61May(t *testing.T) {
	table := []struct {
		from, to int64
		want     bool
	}{
		{1, 2, true}, {1, most, true}, {7, 8, true}, {7, 900, true},
		{most - 1, most, true}, {2, most, true},
		{0, 0, false}, {0, 1, false}, {0, 2, false}, {0, most, false}, {-1, 2, false}, {-1, 0, false},
		{1, 1, false}, {1, 0, false}, {1, -2, false}, {2, 1, false}, {7, 7, false}, {7, 6, false},
		{1, most + 1, false}, {most - 1, most + 1, false}, {most, most, false}, {most, most + 1, false},
		{most, most - 1, false}, {most + 1, most + 1, false}, {most + 1, most + 2, false}, {most + 1, most, false},
		{math.MinInt64, 2, false}, {1, math.MinInt64, false}, {1, math.MaxInt64, false},
		{math.MinInt64, math.MinInt64, false}, {math.MaxInt64 - 1, math.MaxInt64, false}, {math.MaxInt64, math.MinInt64, false},
		{most << 1, most<<1 + 1, false}, {1, 1<<32 + 2, true}, {1<<32 + 1, 2, false},
	}
	for _, c := range table {
		if got := May(api.Item{From: c.from, To: c.to}); got != c.want {
			t.Fatal(c.from, c.to, got)
		}
		if got := May(item(c.from, c.to)); got != c.want {
			t.Fatal(c.from, c.to, got, "of what it says")
		}
	}
}

// edges are numbers at and beside those that the chapter names.
func edges() []int64 {
	l := []int64{math.MinInt64, math.MinInt64 + 1, math.MaxInt64 - 1, math.MaxInt64, -most, 1 << 40, 1 << 32, 1 << 42}
	for n := int64(-2); n <= 6; n++ {
		l = append(l, n, most+n-3)
	}
	return l
}

func TestP61MayEdges(t *testing.T) {
	for _, from := range edges() {
		for _, to := range edges() {
			x := item(from, to)
			if got := May(x); got != wantMay(x) {
				t.Fatal(from, to, got)
			}
		}
	}
}

func TestP61Right(t *testing.T) {
	table := []struct {
		l    api.Line
		want bool
	}{
		{line(1), true}, {line(2), true}, {line(most - 1), true}, {line(most), true},
		{line(0), false}, {line(-1), false}, {line(most + 1), false}, {line(math.MinInt64), false}, {line(math.MaxInt64), false},
		{api.Line{}, false}, {api.Line{Next: 1, Held: []api.Item{}}, true},
		// a held one ahead of what is next, there, and behind it
		{line(5, 6, 7), true}, {line(5, 5, 6), false}, {line(5, 4, 6), false}, {line(5, 4, 5), false}, {line(5, 1, 9), false},
		{line(1, 2, 3), true}, {line(1, 1, 2), false}, {line(1, 0, 2), false}, {line(0, 1, 2), false}, {line(-5, 1, 2), false},
		{line(most-2, most-1, most), true}, {line(most-1, most-1, most), false}, {line(most-1, most, most), false}, {line(most-1, most, most+1), false},
		{line(most, most, most+1), false}, {line(most, most+1, most+2), false}, {line(most+1, most+2, most+3), false},
		// one that may not be
		{line(1, 2, 2), false}, {line(1, 3, 2), false}, {line(1, 2, most), true}, {line(1, 2, most+1), false},
		{line(1, 3, 4, 5, 5), false}, {line(1, 3, 4, 5, most+1), false}, {line(1, 3, 3, 5, 6), false},
		// those that rise, stand twice, fall
		{line(1, 3, 4, 5, 6), true}, {line(1, 3, 4, 4, 5), true}, {line(1, 3, 4, 3, 4), false}, {line(1, 3, 4, 3, 5), false}, {line(1, 5, 6, 3, 4), false},
		{line(1, 3, 4, 5, 6, 4, 5), false}, {line(1, 3, 4, 5, 6, 5, 6), false}, {line(1, 3, 4, 5, 6, 3, 4), false}, {line(1, 3, 4, 5, 6, 7, 8), true},
		// those that overlap, whose To need not rise
		{line(1, 3, 9, 5, 6), true}, {line(1, 3, 9, 4, 9, 5, 6), true}, {line(1, 3, most, 4, 5), true},
		// how many
		{api.Line{Next: 1, Held: ones(2, 1, 1)}, true},
		{api.Line{Next: 1, Held: ones(2, 63, 1)}, true},
		{api.Line{Next: 1, Held: ones(2, 64, 1)}, true},
		{api.Line{Next: 1, Held: ones(2, 65, 1)}, false},
		{api.Line{Next: 1, Held: ones(2, 66, 1)}, false},
		{api.Line{Next: 1, Held: ones(2, 1000, 1)}, false},
		{api.Line{Next: 1, Held: ones(1, 64, 1)}, false},
		{api.Line{Next: most - 65, Held: ones(most-64, 64, 1)}, true},
		{api.Line{Next: most - 64, Held: ones(most-63, 64, 1)}, false},
	}
	for _, c := range table {
		if got := Right(c.l); got != c.want {
			t.Fatal(showLine(c.l), got)
		}
		if c.want != wantRight(c.l) {
			t.Fatal("the test's own reckoning:", showLine(c.l))
		}
	}
}

// wrongLines has lines that aren't right, each in one way, at each place of
// what is held.
func wrongLines() []api.Line {
	l := []api.Line{{}, line(0), line(-1), line(most + 1), line(math.MaxInt64), line(math.MinInt64),
		line(0, 3, 4), line(-7, 3, 4), line(most+1, most+2, most+3), {Next: 1, Held: ones(2, 65, 1)}, {Next: 1, Held: ones(3, 65, 2)}, {Next: 9, Held: ones(12, 200, 2)}}
	for many := 1; many <= 64; many = min(many*2, 64) + many/64 {
		right := api.Line{Next: 9, Held: ones(12, many, 3)}
		for at := range many {
			put := func(x api.Item) {
				held := slices.Clone(right.Held)
				held[at] = x
				l = append(l, api.Line{Next: right.Next, Held: held})
			}
			x := right.Held[at]
			put(item(x.From, x.From))
			put(item(x.From, x.From-1))
			put(item(x.From, most+1))
			put(item(x.From, 0))
			put(item(0, x.To))
			put(item(-x.From, x.To))
			put(item(9, x.To))
			put(item(8, x.To))
			put(item(1, x.To))
			put(api.Item{})
			if at > 0 {
				put(item(right.Held[at-1].From, x.To))
				put(item(right.Held[at-1].From-1, x.To))
				put(right.Held[at-1])
			}
			if at < many-1 {
				put(item(right.Held[at+1].From, most))
				put(item(right.Held[at+1].From+1, most))
			}
		}
	}
	return l
}

func TestP61WrongLines(t *testing.T) {
	for _, l := range wrongLines() {
		if wantRight(l) {
			t.Fatal("the test's own line is right:", showLine(l))
		}
		if Right(l) {
			t.Fatal(showLine(l))
		}
		for _, x := range []api.Item{one(1), one(8), one(9), item(1, 10), item(9, 500), one(10), one(12), one(13), one(499), item(1, most), {}, item(2, 2), item(0, 1)} {
			expect(t, l, x, came{line: l})
		}
		if from, to, ok := Gap(l); from != 0 || to != 0 || ok {
			t.Fatal(showLine(l), from, to, ok)
		}
	}
}

func TestP61WrongItems(t *testing.T) {
	lines := []api.Line{line(1), line(5), line(5, 7, 8), line(5, 6, 9, 7, 8, 20, 30), line(most), line(most-2, most-1, most), {Next: 1, Held: ones(2, 64, 1)}, {Next: 5, Held: ones(8, 63, 2)}}
	for _, l := range lines {
		for _, from := range edges() {
			for _, to := range edges() {
				if x := item(from, to); !wantMay(x) {
					expect(t, l, x, came{line: l})
				}
			}
		}
		expect(t, l, api.Item{}, came{line: l})
		expect(t, l, item(l.Next, l.Next), came{line: l})
		expect(t, l, item(l.Next, most+1), came{line: l})
		expect(t, l, item(0, l.Next+1), came{line: l})
	}
}

func TestP61Come(t *testing.T) {
	table := []struct {
		l    api.Line
		x    api.Item
		want came
	}{
		// nothing is held
		{line(1), one(1), came{line(2), items(1, 2), api.Taken}},
		{line(1), item(1, 9), came{line(9), items(1, 9), api.Taken}},
		{line(1), item(1, most), came{line(most), items(1, most), api.Taken}},
		{line(1), one(2), came{line(1, 2, 3), nil, api.Kept}},
		{line(1), item(2, most), came{line(1, 2, most), nil, api.Kept}},
		{line(1), one(most - 1), came{line(1, most-1, most), nil, api.Kept}},
		// To is below what is next, there, and above it
		{line(5), one(3), came{line(5), nil, api.Old}},
		{line(5), one(4), came{line(5), nil, api.Old}},
		{line(5), item(1, 5), came{line(5), nil, api.Old}},
		{line(5), item(1, 6), came{line(6), items(1, 6), api.Taken}},
		{line(5), item(4, 6), came{line(6), items(4, 6), api.Taken}},
		{line(5), item(4, 60), came{line(60), items(4, 60), api.Taken}},
		// From is there, and above it
		{line(5), one(5), came{line(6), items(5, 6), api.Taken}},
		{line(5), item(5, 8), came{line(8), items(5, 8), api.Taken}},
		{line(5), one(6), came{line(5, 6, 7), nil, api.Kept}},
		// the end of all numbers
		{line(most), one(most - 1), came{line(most), nil, api.Old}},
		{line(most), item(1, most), came{line(most), nil, api.Old}},
		{line(most - 1), one(most - 1), came{line(most), items(most-1, most), api.Taken}},
		{line(most - 1), item(1, most), came{line(most), items(1, most), api.Taken}},
		{line(most-2, most-1, most), one(most - 2), came{line(most), items(most-2, most-1, most-1, most), api.Taken}},
		// old, with what is held left as it is
		{line(5, 7, 8), one(4), came{line(5, 7, 8), nil, api.Old}},
		{line(5, 7, 8), one(7), came{line(5, 7, 8), nil, api.Old}},
		{line(5, 7, 8), item(7, 20), came{line(5, 7, 8), nil, api.Old}},
		{line(5, 7, 18), one(7), came{line(5, 7, 18), nil, api.Old}},
		{line(5, 7, 8, 9, 12, 20, 22), one(9), came{line(5, 7, 8, 9, 12, 20, 22), nil, api.Old}},
		{line(5, 7, 8, 9, 12, 20, 22), item(20, 30), came{line(5, 7, 8, 9, 12, 20, 22), nil, api.Old}},
		// kept ahead of all, between, behind all
		{line(5, 7, 8, 9, 12), one(6), came{line(5, 6, 7, 7, 8, 9, 12), nil, api.Kept}},
		{line(5, 7, 8, 9, 12), item(6, 50), came{line(5, 6, 50, 7, 8, 9, 12), nil, api.Kept}},
		{line(5, 7, 8, 9, 12), one(8), came{line(5, 7, 8, 8, 9, 9, 12), nil, api.Kept}},
		{line(5, 7, 8, 9, 12), one(10), came{line(5, 7, 8, 9, 12, 10, 11), nil, api.Kept}},
		{line(5, 7, 8, 9, 12), one(90), came{line(5, 7, 8, 9, 12, 90, 91), nil, api.Kept}},
		// held ones go out as far as there is no hole
		{line(5, 7, 8), one(5), came{line(6, 7, 8), items(5, 6), api.Taken}},
		{line(5, 6, 7), one(5), came{line(7), items(5, 6, 6, 7), api.Taken}},
		{line(5, 6, 7, 7, 8, 8, 9), one(5), came{line(9), items(5, 6, 6, 7, 7, 8, 8, 9), api.Taken}},
		{line(5, 6, 7, 8, 9), one(5), came{line(7, 8, 9), items(5, 6, 6, 7), api.Taken}},
		{line(5, 7, 8, 10, 11), item(5, 7), came{line(8, 10, 11), items(5, 7, 7, 8), api.Taken}},
		{line(5, 7, 8, 10, 11), item(2, 7), came{line(8, 10, 11), items(2, 7, 7, 8), api.Taken}},
		{line(5, 9, 10), item(5, 8), came{line(8, 9, 10), items(5, 8), api.Taken}},
		// held ones that stand within what is told are told no more
		{line(5, 7, 8), item(5, 8), came{line(8), items(5, 8), api.Taken}},
		{line(5, 7, 8), item(5, 9), came{line(9), items(5, 9), api.Taken}},
		{line(5, 7, 9), item(5, 8), came{line(9), items(5, 8, 7, 9), api.Taken}},
		{line(5, 6, 7, 7, 8, 8, 9, 9, 10), item(5, 9), came{line(10), items(5, 9, 9, 10), api.Taken}},
		{line(5, 6, 7, 7, 12, 8, 9, 12, 13, 14, 15), item(4, 8), came{line(13, 14, 15), items(4, 8, 7, 12, 12, 13), api.Taken}},
		{line(5, 6, 20, 7, 8, 19, 20, 20, 21, 22, 23), one(5), came{line(21, 22, 23), items(5, 6, 6, 20, 20, 21), api.Taken}},
		{line(5, 6, 7, 8, 9, 50, 51), item(1, most), came{line(most), items(1, most), api.Taken}},
		{line(5, 6, most, 7, 8), one(5), came{line(most), items(5, 6, 6, most), api.Taken}},
	}
	for _, c := range table {
		expect(t, c.l, c.x, c.want)
		if got := wantCome(c.l, c.x); !got.same(c.want) {
			t.Fatal("the test's own reckoning:", got)
		}
	}
}

// TestP61Example is that of the chapter.
func TestP61Example(t *testing.T) {
	l, told, kind := Come(line(1), one(3))
	if kind != api.Kept || len(told) != 0 {
		t.Fatal(kind, told)
	}
	if from, to, ok := Gap(l); from != 1 || to != 2 || !ok {
		t.Fatal(from, to, ok)
	}
	l, told, kind = Come(l, one(1))
	if kind != api.Taken || !slices.Equal(told, items(1, 2)) {
		t.Fatal(kind, told)
	}
	l, told, kind = Come(l, one(2))
	if kind != api.Taken || !slices.Equal(told, items(2, 3, 3, 4)) || l.Next != 4 {
		t.Fatal(kind, told, l)
	}
}

// TestP61FirstStays holds an item that is held already against the one that comes:
// what was there first stays.
func TestP61FirstStays(t *testing.T) {
	other := api.Item{From: 7, To: 8, M: api.Msg{Kind: api.Report, Text: "other"}}
	l := line(5, 6, 7, 7, 8)
	expect(t, l, other, came{l, nil, api.Old})
	expect(t, l, one(5), came{line(8), items(5, 6, 6, 7, 7, 8), api.Taken})
}

// TestP61EachPlace tries each place of lines that are nearly full, full, and
// hardly so: on what is held, and between.
func TestP61EachPlace(t *testing.T) {
	for _, many := range []int{0, 1, 2, 3, 62, 63, 64} {
		l := api.Line{Next: 9, Held: ones(11, many, 2)}
		for at := range many {
			for _, to := range []int64{l.Held[at].To, l.Held[at].To + 1, 500, most} {
				expect(t, l, item(l.Held[at].From, to), came{l, nil, api.Old})
			}
		}
		for at := range many + 1 {
			from := 10 + 2*int64(at)
			for _, to := range []int64{from + 1, from + 2, 500, most} {
				x := item(from, to)
				want := came{l, nil, api.Full}
				if many < 64 {
					held := append(append(slices.Clone(l.Held[:at]), x), l.Held[at:]...)
					want = came{api.Line{Next: 9, Held: held}, nil, api.Kept}
				}
				expect(t, l, x, want)
			}
		}
		expect(t, l, one(8), came{l, nil, api.Old})
		expect(t, l, one(9), came{api.Line{Next: 10, Held: l.Held}, []api.Item{one(9)}, api.Taken})
	}
}

// TestP61FullLineGoesOn takes from a full line what is missing, of each length.
func TestP61FullLineGoesOn(t *testing.T) {
	l := api.Line{Next: 9, Held: ones(11, 64, 1)}
	expect(t, l, one(9), came{api.Line{Next: 10, Held: l.Held}, []api.Item{one(9)}, api.Taken})
	for to := int64(11); to <= 80; to++ {
		told := []api.Item{item(9, to)}
		if to < 75 {
			told = append(told, l.Held[to-11:]...)
		}
		expect(t, l, item(9, to), came{line(max(to, 75)), told, api.Taken})
	}
}

// smallLines has all lines of numbers up to the greatest one.
func smallLines(next, greatest int64) []api.Line {
	l := []api.Line{line(next)}
	for from := next + 1; from < greatest; from++ {
		for _, ahead := range slices.Clone(l) {
			for to := from + 1; to <= greatest; to++ {
				l = append(l, api.Line{Next: next, Held: append(slices.Clone(ahead.Held), item(from, to))})
			}
		}
	}
	return l
}

func TestP61AllSmallLines(t *testing.T) {
	const greatest = 7
	for next := int64(1); next <= greatest; next++ {
		for _, l := range smallLines(next, greatest) {
			if !Right(l) {
				t.Fatal(showLine(l))
			}
			for from := int64(0); from <= greatest+1; from++ {
				for to := from; to <= greatest+2; to++ {
					expect(t, l, item(from, to), wantCome(l, item(from, to)))
				}
			}
			checkGap(t, l)
		}
	}
}

// checkGap looks for what is missing number by number.
func checkGap(t *testing.T, l api.Line) {
	t.Helper()
	var missing []int64
	if len(l.Held) > 0 {
		for n := l.Next; n < l.Held[0].From; n++ {
			missing = append(missing, n)
		}
	}
	from, to, ok := Gap(l)
	if len(missing) == 0 {
		if from != 0 || to != 0 || ok {
			t.Fatal(showLine(l), from, to, ok)
		}
		return
	}
	if from != missing[0] || to != missing[len(missing)-1] || !ok {
		t.Fatal(showLine(l), from, to, ok)
	}
}

func TestP61Gap(t *testing.T) {
	table := []struct {
		l        api.Line
		from, to int64
		want     bool
	}{
		{line(1, 3, 4), 1, 2, true},
		{line(1, 2, 3), 1, 1, true},
		{line(1, 2, 3, 9, 10), 1, 1, true},
		{line(5, 9, 10, 20, 30), 5, 8, true},
		{line(5, 9, 30, 20, 25), 5, 8, true},
		{line(1, most-1, most), 1, most - 2, true},
		{line(most-2, most-1, most), most - 2, most - 2, true},
		{api.Line{Next: 3, Held: ones(10, 64, 1)}, 3, 9, true},
		{line(1), 0, 0, false},
		{line(most), 0, 0, false},
		{api.Line{Next: 7, Held: []api.Item{}}, 0, 0, false},
		{line(0), 0, 0, false},
		{line(0, 3, 4), 0, 0, false},
		{line(3, 3, 4), 0, 0, false},
		{line(4, 3, 5), 0, 0, false},
		{line(1, 3, 3), 0, 0, false},
		{line(1, 3, 4, 3, 4), 0, 0, false},
		{line(1, 3, 4, 2, 3), 0, 0, false},
		{line(most, most+1, most+2), 0, 0, false},
		{api.Line{Next: 3, Held: ones(10, 65, 1)}, 0, 0, false},
	}
	for _, c := range table {
		if from, to, ok := Gap(c.l); from != c.from || to != c.to || ok != c.want {
			t.Fatal(showLine(c.l), from, to, ok)
		}
	}
}

// checkTold: from what was next to what is, each one told begins no later than
// where the one ahead of it ended, and goes on behind that.
func checkTold(t *testing.T, before api.Line, got came) {
	t.Helper()
	next := before.Next
	for _, x := range got.told {
		if x.From > next || x.To <= next {
			t.Fatalf("from %s: %s", showLine(before), got)
		}
		next = x.To
	}
	if next != got.line.Next || (len(got.told) > 0) != (got.kind == api.Taken) {
		t.Fatalf("from %s: %s", showLine(before), got)
	}
	if !Right(got.line) {
		t.Fatalf("from %s: no right line behind it: %s", showLine(before), got)
	}
}

// TestP62ManyNumbers lets items of any lengths come, near to one another, and
// holds the numbers that were told against those that came.
func TestP62ManyNumbers(t *testing.T) {
	for seed := range uint64(80) {
		r := rand.New(rand.NewPCG(6, seed))
		span, length := 1+r.Int64N(300), 1+r.Int64N(20)
		l := line(1 + r.Int64N(3))
		beginning := l.Next
		there := map[int64]bool{}
		for range 400 {
			x := item(1+r.Int64N(span), 0)
			x.To = x.From + 1 + r.Int64N(length)
			got := come(l, x)
			if want := wantCome(l, x); !got.same(want) {
				t.Fatalf("line %s\nitem %d-%d\n got %s\nwant %s", showLine(l), x.From, x.To, got, want)
			}
			checkTold(t, l, got)
			if got.kind == api.Taken || got.kind == api.Kept {
				for n := x.From; n < x.To; n++ {
					there[n] = true
				}
			}
			l = got.line
			if end := firstMissing(there, beginning); l.Next != end {
				t.Fatal(seed, showLine(l), end)
			}
			checkGap(t, l)
		}
	}
}

func firstMissing(there map[int64]bool, from int64) int64 {
	for there[from] {
		from++
	}
	return from
}

// heard follows a line of items of one number each.
type heard struct {
	line  api.Line
	told  []api.Item
	there map[int64]bool
}

// come lets one come, and looks whether those are told that are there without
// a hole from the beginning on.
func (h *heard) come(t *testing.T, x api.Item) int {
	t.Helper()
	got := come(h.line, x)
	checkTold(t, h.line, got)
	was := h.there[x.From]
	if was != (got.kind == api.Old) {
		t.Fatal(x.From, was, got)
	}
	if got.kind == api.Full && len(h.line.Held) != 64 {
		t.Fatal(x.From, got)
	}
	if got.kind != api.Full {
		h.there[x.From] = true
	}
	h.line, h.told = got.line, append(h.told, got.told...)
	end := firstMissing(h.there, 1)
	if h.line.Next != end || int64(len(h.told)) != end-1 {
		t.Fatal(showLine(h.line), len(h.told), end)
	}
	for i, y := range h.told {
		if y != one(int64(i)+1) {
			t.Fatal(i, y)
		}
	}
	return got.kind
}

func TestP62OneNumberEach(t *testing.T) {
	for seed := range uint64(60) {
		r := rand.New(rand.NewPCG(62, seed))
		many := 1 + r.Int64N(150)
		h := heard{line: line(1), there: map[int64]bool{}}
		full := 0
		// Those that found no room come again, as all others do.
		for h.line.Next <= many {
			for _, i := range r.Perm(int(many)) {
				if h.come(t, one(int64(i)+1)) == api.Full {
					full++
				}
			}
		}
		if len(h.line.Held) != 0 || many <= 65 && full > 0 {
			t.Fatal(seed, many, full, showLine(h.line))
		}
		for n := int64(1); n <= many; n++ {
			if h.come(t, one(n)) != api.Old {
				t.Fatal(seed, n)
			}
		}
	}
}

// TestP62AllOrders lets few come in all orders, each of them twice.
func TestP62AllOrders(t *testing.T) {
	var try func(left []int64, came []int64)
	try = func(left []int64, came []int64) {
		if len(left) > 0 {
			for i, n := range left {
				try(slices.Concat(left[:i], left[i+1:]), append(slices.Clone(came), n))
			}
			return
		}
		h := heard{line: line(1), there: map[int64]bool{}}
		for _, n := range came {
			h.come(t, one(n))
			h.come(t, one(n))
		}
		for _, n := range came {
			h.come(t, one(n))
		}
		if h.line.Next != int64(len(came))+1 {
			t.Fatal(came, showLine(h.line))
		}
	}
	try([]int64{1, 2, 3, 4, 5, 6}, nil)
}

// TestP62Backwards lets 65 come from the last to the first: all are held, and
// told by the first one.
func TestP62Backwards(t *testing.T) {
	h := heard{line: line(1), there: map[int64]bool{}}
	for n := int64(65); n > 1; n-- {
		if h.come(t, one(n)) != api.Kept {
			t.Fatal(n)
		}
	}
	if h.come(t, one(66)) != api.Full || h.come(t, one(65)) != api.Old {
		t.Fatal(showLine(h.line))
	}
	if h.come(t, one(1)) != api.Taken || len(h.told) != 65 || len(h.line.Held) != 0 {
		t.Fatal(showLine(h.line), len(h.told))
	}
}

// withRoom lays items ahead of spare room, in which something stands.
func withRoom(l []api.Item) (part, whole []api.Item) {
	whole = append(slices.Clone(l), ones(most, 70, 1)...)
	return whole[:len(l)], whole
}

// scribble writes over all of a list, its spare room too.
func scribble(l []api.Item) {
	l = l[:cap(l)]
	for i := range l {
		l[i] = item(-1, -1)
	}
}

func linesAndItems(try func(l api.Line, x api.Item)) {
	lines := []api.Line{line(5), line(5, 6, 7), line(5, 6, 7, 7, 8, 9, 12, 20, 22), {Next: 5, Held: ones(7, 63, 1)}, {Next: 5, Held: ones(7, 64, 1)},
		{Next: 5, Held: ones(7, 65, 1)}, line(0, 3, 4), line(5, 5, 6), line(5, 7, 8, 7, 8), line(5, 7, 8, 6, 8)}
	for _, l := range lines {
		for _, x := range []api.Item{one(4), one(5), item(5, 7), item(5, 10), item(5, 40), item(1, most), one(6), one(7), one(8), one(300), {}, item(5, 5)} {
			try(l, x)
		}
	}
}

func TestArgumentsAreLeftAlone(t *testing.T) {
	linesAndItems(func(l api.Line, x api.Item) {
		part, whole := withRoom(l.Held)
		before := slices.Clone(whole)
		given := api.Line{Next: l.Next, Held: part}
		got := come(given, x)
		Right(given)
		Gap(given)
		if !slices.Equal(whole, before) {
			t.Fatal(showLine(l), x.From, x.To)
		}
		if want := come(l, x); !got.same(want) {
			t.Fatalf("%s\nwant %s", got, want)
		}
		scribble(got.line.Held)
		scribble(got.told)
		if !slices.Equal(whole, before) {
			t.Fatal("an answer shares memory with what was handed in:", showLine(l), x.From, x.To)
		}
	})
}

func TestAnswersAreNew(t *testing.T) {
	linesAndItems(func(l api.Line, x api.Item) {
		got, want := come(l, x), come(l, x)
		scribble(got.told)
		if !slices.Equal(got.line.Held, want.line.Held) {
			t.Fatal("what is told shares memory with what is held:", showLine(l), x.From, x.To)
		}
		got = come(l, x)
		scribble(got.line.Held)
		if !slices.Equal(got.told, want.told) {
			t.Fatal("what is held shares memory with what is told:", showLine(l), x.From, x.To)
		}
		if again := come(l, x); !again.same(want) {
			t.Fatal("an answer is kept:", showLine(l), x.From, x.To)
		}
	})
}
