package num

import (
	"math"
	"math/big"
	"regexp"
	"slices"
	"strings"
	"testing"

	"checkroll/api"
)

const most = api.MaxNum

// edges are the ends of the numbers and of int64, what is beside them, and the
// sizes at which sums and products begin to leave 31, 32, 62, 63 and 64 bits.
func edges() []int64 {
	l := []int64{math.MinInt64, math.MinInt64 + 1, math.MaxInt64, math.MaxInt64 - 1}
	for _, n := range []int64{0, 1, 2, 3, 7, 10, 99, 1e9, 1e18, 1<<31 - 1, 1 << 31, 1<<31 + 1, 1 << 32, 1<<61 - 1, 1 << 61, 1<<61 + 1, most - 2, most - 1, most, most + 1, most + 2, 3037000499, 3037000500, 2147483648, most / 3} {
		l = append(l, n, -n)
	}
	return l
}

// numbers are those of the edges that are numbers, by big's reckoning.
func numbers() []int64 {
	return slices.DeleteFunc(edges(), func(n int64) bool { return !isNumber(big.NewInt(n)) })
}

func isNumber(n *big.Int) bool {
	bound := new(big.Int).Lsh(big.NewInt(1), 62)
	return n.CmpAbs(bound) <= 0
}

// want tells what is asked of a result that big has reckoned from parts.
func want(whole *big.Int, parts ...int64) (int64, bool) {
	for _, n := range parts {
		if !isNumber(big.NewInt(n)) {
			return 0, false
		}
	}
	if !isNumber(whole) {
		return 0, false
	}
	return whole.Int64(), true
}

func TestP11Right(t *testing.T) {
	for _, c := range []struct {
		n  int64
		ok bool
	}{{0, true}, {1, true}, {-1, true}, {most, true}, {-most, true}, {most - 1, true}, {1 - most, true}, {most + 1, false}, {-most - 1, false}, {math.MaxInt64, false}, {math.MinInt64, false}, {math.MinInt64 + 1, false}} {
		if ok := Right(c.n); ok != c.ok {
			t.Errorf("Right(%d): %v", c.n, ok)
		}
	}
	for _, n := range edges() {
		if ok := Right(n); ok != isNumber(big.NewInt(n)) {
			t.Errorf("Right(%d): %v", n, ok)
		}
	}
}

func TestP11Add(t *testing.T) {
	for _, c := range []struct {
		a, b, sum int64
		ok        bool
	}{{3, 4, 7, true}, {3, -4, -1, true}, {0, 0, 0, true}, {most, 0, most, true}, {most, -1, most - 1, true}, {most - 1, 1, most, true}, {most, -most, 0, true}, {-most + 1, -1, -most, true}, {most, 1, 0, false}, {-most, -1, 0, false}, {most, most, 0, false}, {-most, -most, 0, false}, {most + 1, -1, 0, false}, {-1, most + 1, 0, false}, {-most - 1, 1, 0, false}, {math.MinInt64, math.MinInt64, 0, false}, {math.MaxInt64, math.MinInt64, 0, false}, {math.MinInt64, most, 0, false}} {
		if sum, ok := Add(c.a, c.b); sum != c.sum || ok != c.ok {
			t.Errorf("Add(%d, %d): %d %v", c.a, c.b, sum, ok)
		}
	}
	for _, a := range edges() {
		for _, b := range edges() {
			sum, may := want(new(big.Int).Add(big.NewInt(a), big.NewInt(b)), a, b)
			if n, ok := Add(a, b); n != sum || ok != may {
				t.Errorf("Add(%d, %d): %d %v, want %d %v", a, b, n, ok, sum, may)
			}
		}
	}
}

func TestP11Mul(t *testing.T) {
	for _, c := range []struct {
		a, b, product int64
		ok            bool
	}{{3, 4, 12, true}, {3, -4, -12, true}, {-3, -4, 12, true}, {0, -4, 0, true}, {most, 0, 0, true}, {most, 1, most, true}, {most, -1, -most, true}, {-most, -1, most, true}, {1 << 31, 1 << 31, most, true}, {-1 << 31, 1 << 31, -most, true}, {-1 << 31, -1 << 31, most, true}, {1<<31 + 1, 1 << 31, 0, false}, {most, 2, 0, false}, {most, -2, 0, false}, {most, 4, 0, false}, {most, most, 0, false}, {-most, most, 0, false}, {1 << 32, 1 << 32, 0, false}, {most + 1, 0, 0, false}, {0, -most - 1, 0, false}, {math.MinInt64, 0, 0, false}, {1, math.MaxInt64, 0, false}, {math.MinInt64, -1, 0, false}} {
		if product, ok := Mul(c.a, c.b); product != c.product || ok != c.ok {
			t.Errorf("Mul(%d, %d): %d %v", c.a, c.b, product, ok)
		}
	}
	for _, a := range edges() {
		for _, b := range edges() {
			product, may := want(new(big.Int).Mul(big.NewInt(a), big.NewInt(b)), a, b)
			if n, ok := Mul(a, b); n != product || ok != may {
				t.Errorf("Mul(%d, %d): %d %v, want %d %v", a, b, n, ok, product, may)
			}
		}
	}
}

func TestP11Sum(t *testing.T) {
	for _, c := range []struct {
		l   []int64
		sum int64
		ok  bool
	}{
		{nil, 0, true},
		{[]int64{}, 0, true},
		{[]int64{5}, 5, true},
		{[]int64{1, -2, 3}, 2, true},
		{[]int64{most}, most, true},
		{[]int64{-most}, -most, true},
		{[]int64{most, 1}, 0, false},
		{[]int64{-most, -1}, 0, false},
		{[]int64{most, 1, -1}, most, true},
		{[]int64{-most, -1, 1}, -most, true},
		{[]int64{most, most}, 0, false},
		{[]int64{-most, -most}, 0, false},
		{[]int64{most, most, -most, -most}, 0, true},
		{[]int64{most, most, most, most}, 0, false},
		{[]int64{-most, -most, -most, -most}, 0, false},
		{[]int64{most, most, most, most, 5}, 0, false},
		{[]int64{-most, -most, -most, -most, -5}, 0, false},
		{[]int64{-most, -most, -most, -most, 5}, 0, false},
		{[]int64{-most, -most, -most, -most, -most, most, most, most}, 0, false},
		{[]int64{-most, -most, -most, -most, -most, most, most, most, most}, -most, true},
		{[]int64{most + 1}, 0, false},
		{[]int64{-most - 1}, 0, false},
		{[]int64{most + 1, -1}, 0, false},
		{[]int64{-1, most + 1}, 0, false},
		{[]int64{3, math.MinInt64, 4}, 0, false},
		{[]int64{math.MaxInt64, math.MinInt64, 1}, 0, false},
		{[]int64{3, 4, math.MaxInt64}, 0, false},
	} {
		if sum, ok := Sum(c.l); sum != c.sum || ok != c.ok {
			t.Errorf("Sum(%d): %d %v", c.l, sum, ok)
		}
	}
}

func TestP11SumOfThree(t *testing.T) {
	for _, a := range edges() {
		for _, b := range edges() {
			for _, c := range edges() {
				whole := new(big.Int).Add(big.NewInt(a), big.NewInt(b))
				sum, may := want(whole.Add(whole, big.NewInt(c)), a, b, c)
				if n, ok := Sum([]int64{a, b, c}); n != sum || ok != may {
					t.Fatalf("Sum(%d, %d, %d): %d %v, want %d %v", a, b, c, n, ok, sum, may)
				}
			}
		}
	}
}

func TestP11SumOfMany(t *testing.T) {
	const many = 1 << 16
	up, down := slices.Repeat([]int64{most}, many), slices.Repeat([]int64{-most}, many)
	if n, ok := Sum(slices.Concat(up, []int64{-7}, down)); n != -7 || !ok {
		t.Error("up and down:", n, ok)
	}
	if n, ok := Sum(slices.Concat(down, up, []int64{most})); n != most || !ok {
		t.Error("down and up:", n, ok)
	}
	if n, ok := Sum(up); n != 0 || ok {
		t.Error("up:", n, ok)
	}
	if n, ok := Sum(down); n != 0 || ok {
		t.Error("down:", n, ok)
	}
}

func TestSumLeavesItsListAlone(t *testing.T) {
	room := []int64{3, most, -most, 9, 8}
	Sum(room[:3])
	if !slices.Equal(room, []int64{3, most, -most, 9, 8}) {
		t.Error(room)
	}
}

func TestP12Show(t *testing.T) {
	for _, c := range []struct {
		n    int64
		text string
	}{{0, "0"}, {7, "7"}, {-7, "-7"}, {10, "10"}, {-100, "-100"}, {most, "4611686018427387904"}, {-most, "-4611686018427387904"}, {most - 1, "4611686018427387903"}, {most + 1, ""}, {-most - 1, ""}, {math.MaxInt64, ""}, {math.MinInt64, ""}} {
		if text := Show(c.n); text != c.text {
			t.Errorf("Show(%d): %q", c.n, text)
		}
	}
}

func TestP12Parse(t *testing.T) {
	for _, c := range []struct {
		text string
		n    int64
		e    api.Errno
	}{
		{"0", 0, api.OK},
		{"7", 7, api.OK},
		{"-7", -7, api.OK},
		{"1234567890", 1234567890, api.OK},
		{"4611686018427387903", most - 1, api.OK},
		{"4611686018427387904", most, api.OK},
		{"-4611686018427387904", -most, api.OK},
		{"4611686018427387905", 0, api.ErrOver},
		{"-4611686018427387905", 0, api.ErrOver},
		{"9223372036854775807", 0, api.ErrOver},
		{"9223372036854775808", 0, api.ErrOver},
		{"-9223372036854775808", 0, api.ErrOver},
		{"-9223372036854775809", 0, api.ErrOver},
		{"-9999999999999999999", 0, api.ErrOver},
		{"10000000000000000000", 0, api.ErrOver},
		{"18446744073709551615", 0, api.ErrOver},
		{"18446744073709551616", 0, api.ErrOver},
		{"18446744073709551623", 0, api.ErrOver},
		{"99999999999999999999", 0, api.ErrOver},
		{"", 0, api.ErrForm},
		{"-", 0, api.ErrForm},
		{"--", 0, api.ErrForm},
		{"--7", 0, api.ErrForm},
		{"-0", 0, api.ErrForm},
		{"00", 0, api.ErrForm},
		{"07", 0, api.ErrForm},
		{"-07", 0, api.ErrForm},
		{"7-", 0, api.ErrForm},
		{"+7", 0, api.ErrForm},
		{"-+7", 0, api.ErrForm},
		{" 7", 0, api.ErrForm},
		{"7 ", 0, api.ErrForm},
		{"7\n", 0, api.ErrForm},
		{"7\x00", 0, api.ErrForm},
		{"1_000", 0, api.ErrForm},
		{"0x7", 0, api.ErrForm},
		{"7.0", 0, api.ErrForm},
		{"1e3", 0, api.ErrForm},
		{"/", 0, api.ErrForm},
		{":", 0, api.ErrForm},
		{"1/", 0, api.ErrForm},
		{"1:", 0, api.ErrForm},
		{"٣", 0, api.ErrForm},
		{"\xff", 0, api.ErrForm},
		{"−7", 0, api.ErrForm},
	} {
		if n, e := Parse(c.text); n != c.n || e != c.e {
			t.Errorf("Parse(%q): %d %d, want %d %d", c.text, n, e, c.n, c.e)
		}
	}
}

func TestP12ParseFirstOfErrors(t *testing.T) {
	for _, c := range []struct {
		text string
		e    api.Errno
	}{
		{strings.Repeat("9", 21), api.ErrLong},
		{"-" + strings.Repeat("9", 20), api.ErrLong},
		{strings.Repeat("0", 21), api.ErrLong},
		{strings.Repeat("x", 21), api.ErrLong},
		{strings.Repeat(" ", 20) + "7", api.ErrLong},
		{strings.Repeat("1", 1000), api.ErrLong},
		{"-" + strings.Repeat("0", 19) + "7", api.ErrLong},
		{strings.Repeat("9", 20), api.ErrOver},
		{"-" + strings.Repeat("9", 19), api.ErrOver},
		{strings.Repeat("0", 20), api.ErrForm},
		{strings.Repeat("x", 20), api.ErrForm},
		{"0" + strings.Repeat("9", 19), api.ErrForm},
		{"-0" + strings.Repeat("9", 18), api.ErrForm},
		{strings.Repeat("9", 19) + "x", api.ErrForm},
		{"x" + strings.Repeat("9", 19), api.ErrForm},
		{"0" + "4611686018427387904", api.ErrForm},
		{"+" + "4611686018427387905", api.ErrForm},
	} {
		if n, e := Parse(c.text); n != 0 || e != c.e {
			t.Errorf("Parse(%q): %d %d, want %d", c.text, n, e, c.e)
		}
	}
}

var formOfNumbers = regexp.MustCompile(`^(0|-?[1-9][0-9]*)\z`)

// wantParse reckons by a pattern and by big what Parse has to tell.
func wantParse(text string) (int64, api.Errno) {
	if len(text) > 20 {
		return 0, api.ErrLong
	}
	if !formOfNumbers.MatchString(text) {
		return 0, api.ErrForm
	}
	n, _ := new(big.Int).SetString(text, 10)
	if !isNumber(n) {
		return 0, api.ErrOver
	}
	return n.Int64(), api.OK
}

func checkParse(t *testing.T, text string) {
	t.Helper()
	n, e := wantParse(text)
	if m, f := Parse(text); m != n || f != e {
		t.Errorf("Parse(%q): %d %d, want %d %d", text, m, f, n, e)
	}
}

// The digit 0, a - and other bytes take the place of each byte of a text, and
// stand between each two of them.
func TestP12ParseByteInEachPlace(t *testing.T) {
	texts := []string{"0", "5", "-5", "42", "-42", "1234567", "4611686018427387904", "-4611686018427387904", "9999999999999999999", "99999999999999999999", "-9999999999999999999", "999999999999999999999"}
	for _, text := range texts {
		checkParse(t, text)
		for place := range len(text) + 1 {
			for _, b := range []string{"0", "-", "+", " ", "/", ":", "a", "_", "\x00", "\xff", "1", "9"} {
				checkParse(t, text[:place]+b+text[place:])
				if place < len(text) {
					checkParse(t, text[:place]+b+text[place+1:])
				}
			}
		}
	}
}

func TestP12ParseEachByteAlone(t *testing.T) {
	for b := range 256 {
		text := string([]byte{byte(b)})
		checkParse(t, text)
		checkParse(t, "1"+text)
		checkParse(t, "-"+text)
	}
}

func TestP12ParseEachShortText(t *testing.T) {
	texts := []string{""}
	for range 5 {
		var longer []string
		for _, text := range texts {
			checkParse(t, text)
			for _, b := range []string{"0", "1", "9", "-", "+", " "} {
				longer = append(longer, text+b)
			}
		}
		texts = longer
	}
}

func TestP13OrderDoesNotCount(t *testing.T) {
	for _, a := range edges() {
		for _, b := range edges() {
			sum, ok := Add(a, b)
			if other, may := Add(b, a); sum != other || ok != may {
				t.Errorf("Add(%d, %d): %d %v, turned %d %v", a, b, sum, ok, other, may)
			}
			product, ok := Mul(a, b)
			if other, may := Mul(b, a); product != other || ok != may {
				t.Errorf("Mul(%d, %d): %d %v, turned %d %v", a, b, product, ok, other, may)
			}
		}
	}
}

func TestP13OrderOfAListDoesNotCount(t *testing.T) {
	for _, l := range [][]int64{{1, 2, 3, 4, 5}, {most, most, most, -most, -most}, {most, 1, -1, most, -most}, {-most, -most, -3, most, most}, {most, most, most, most, 2}, {most + 1, -1, 0, 0, 0}, {most, -most, math.MinInt64, math.MaxInt64, 1}} {
		n, ok := Sum(l)
		permute(slices.Clone(l), 0, func(turned []int64) {
			if m, may := Sum(turned); m != n || may != ok {
				t.Errorf("Sum(%d): %d %v, in order %d: %d %v", l, n, ok, turned, m, may)
			}
		})
	}
}

// permute calls f with each order of the list's part from the given place on.
func permute(l []int64, from int, f func([]int64)) {
	if from == len(l) {
		f(l)
		return
	}
	for i := from; i < len(l); i++ {
		l[from], l[i] = l[i], l[from]
		permute(l, from+1, f)
		l[from], l[i] = l[i], l[from]
	}
}

func TestP13SumLessOnePartIsTheOther(t *testing.T) {
	found := 0
	for _, a := range numbers() {
		for _, b := range numbers() {
			sum, ok := Add(a, b)
			if !ok {
				continue
			}
			found++
			if n, ok := Add(sum, -b); n != a || !ok {
				t.Errorf("Add(%d, %d) less the other: %d %v", a, b, n, ok)
			}
			if n, ok := Sum([]int64{sum, -b}); n != a || !ok {
				t.Errorf("Sum(%d, %d) less the other: %d %v", a, b, n, ok)
			}
		}
	}
	if found == 0 {
		t.Error("no sum was told")
	}
}

func TestP13TextsAreReadAsShown(t *testing.T) {
	l := numbers()
	for n := int64(-1100); n <= 1100; n++ {
		l = append(l, n)
	}
	for n := int64(1); n <= most/10; n *= 10 {
		l = append(l, n, -n, n*10-1, 1-n*10)
	}
	for _, n := range l {
		if m, e := Parse(Show(n)); m != n || e != api.OK {
			t.Errorf("Parse(Show(%d)): %d %d", n, m, e)
		}
	}
	for _, text := range []string{"0", "9", "-9", "10", "-10", "4611686018427387904", "-4611686018427387904"} {
		n, e := Parse(text)
		if shown := Show(n); e != api.OK || shown != text {
			t.Errorf("Show(Parse(%q)): %q %d", text, shown, e)
		}
	}
}
