package sess

import (
	"fmt"
	"math"
	"math/rand/v2"
	"slices"
	"strings"
	"testing"

	"checkroll/api"
	"checkroll/msg"
)

const (
	top    = int64(1) << 40 // the greatest number to be said
	far    = int64(1) << 41 // the greatest number in line
	long   = int64(1) << 20 // the greatest Every
	maxNum = int64(1) << 62
)

// exec is an execution of its own for each number.
func exec(n int64) api.Exec {
	return api.Exec{ID: fmt.Sprint("e", n), Order: "o", Account: "a", Symbol: "s", Kind: api.New, Qty: n % 7}
}

func report(seq int64) api.Msg { return api.Msg{Kind: api.Report, Seq: seq, Exec: exec(seq)} }
func logon(seq int64) api.Msg  { return api.Msg{Kind: api.Logon, Seq: seq, A: 30} }
func beat(seq int64) api.Msg   { return api.Msg{Kind: api.Beat, Seq: seq} }
func logout(seq int64) api.Msg { return api.Msg{Kind: api.Logout, Seq: seq} }
func test(seq int64, text string) api.Msg {
	return api.Msg{Kind: api.Test, Seq: seq, Text: text}
}
func resend(seq, a, b int64) api.Msg { return api.Msg{Kind: api.Resend, Seq: seq, A: a, B: b} }
func reset(seq, a int64, gap bool) api.Msg {
	return api.Msg{Kind: api.Reset, Seq: seq, A: a, Gap: gap}
}

// What is said, by its number and time.

func saidLogon(seq, now, every int64) api.Msg {
	return api.Msg{Kind: api.Logon, Seq: seq, Time: now, A: every}
}
func saidBeat(seq, now int64, text string) api.Msg {
	return api.Msg{Kind: api.Beat, Seq: seq, Time: now, Text: text}
}
func saidTest(seq, now int64) api.Msg {
	return api.Msg{Kind: api.Test, Seq: seq, Time: now, Text: "t"}
}
func saidResend(seq, now, a, b int64) api.Msg {
	return api.Msg{Kind: api.Resend, Seq: seq, Time: now, A: a, B: b}
}
func saidReset(seq, now, a int64) api.Msg {
	return api.Msg{Kind: api.Reset, Seq: seq, Time: now, Copy: true, A: a, Gap: true}
}

// held are Reports of these numbers that wait.
func held(seqs ...int64) []api.Item {
	var l []api.Item
	for _, n := range seqs {
		l = append(l, api.Item{From: n, To: n + 1, M: report(n)})
	}
	return l
}

// on is a session that is On, of Every 10, that heard and said something at
// 100, and asked then, but for nothing that is missing.
func on(next, out int64, seqs ...int64) api.Sess {
	return api.Sess{State: api.On, In: api.Line{Next: next, Held: held(seqs...)}, Out: out, Every: 10, Heard: 100, Said: 100, When: 100}
}

// with is a session in which something is otherwise.
func with(s api.Sess, change func(s *api.Sess)) api.Sess {
	s.In.Held = slices.Clone(s.In.Held)
	change(&s)
	return s
}

func sameSess(a, b api.Sess) bool {
	return a.State == b.State && a.In.Next == b.In.Next && slices.Equal(a.In.Held, b.In.Held) && a.Out == b.Out && a.Every == b.Every &&
		a.Heard == b.Heard && a.Said == b.Said && a.Asked == b.Asked && a.When == b.When && a.Tested == b.Tested
}

// answer is what an act answers.
type answer struct {
	s          api.Sess
	said, told []api.Msg
	broken     bool
	e          api.Errno
}

func connect(s api.Sess, now int64) answer {
	n, said, e := Connect(s, now)
	return answer{s: n, said: said, e: e}
}

func come(s api.Sess, m api.Msg, now int64) answer {
	n, said, told, broken, e := Come(s, m, now)
	return answer{n, said, told, broken, e}
}

func tick(s api.Sess, now int64) answer {
	n, said, e := Tick(s, now)
	return answer{s: n, said: said, e: e}
}

func (a answer) same(b answer) bool {
	return sameSess(a.s, b.s) && slices.Equal(a.said, b.said) && slices.Equal(a.told, b.told) && a.broken == b.broken && a.e == b.e
}

func showMsgs(l []api.Msg) string {
	var b strings.Builder
	for _, m := range l {
		fmt.Fprintf(&b, " {kind %d seq %d time %d copy %t a %d b %d gap %t text %q %q}", m.Kind, m.Seq, m.Time, m.Copy, m.A, m.B, m.Gap, m.Text, m.Exec.ID)
	}
	return b.String()
}

func showSess(s api.Sess) string {
	var b strings.Builder
	fmt.Fprintf(&b, "state %d next %d out %d every %d heard %d said %d asked %d when %d tested %t held", s.State, s.In.Next, s.Out, s.Every, s.Heard, s.Said, s.Asked, s.When, s.Tested)
	for _, x := range s.In.Held[:min(len(s.In.Held), 8)] {
		fmt.Fprintf(&b, " %d-%d", x.From, x.To)
	}
	return fmt.Sprint(b.String(), " (", len(s.In.Held), ")")
}

func (a answer) String() string {
	return fmt.Sprintf("%s\n  said%s\n  told%s\n  broken %t, error %d", showSess(a.s), showMsgs(a.said), showMsgs(a.told), a.broken, a.e)
}

func expect(t *testing.T, s api.Sess, m api.Msg, now int64, got, want answer) {
	t.Helper()
	if !got.same(want) {
		t.Fatalf("session %s\nat %d%s\n got %s\nwant %s", showSess(s), now, showMsgs([]api.Msg{m}), got, want)
	}
}

// The chapter's words, once more: what is held stands by its From, and a
// session is led through each of its sentences in turn.

// wantRight says whether a session is right.
func wantRight(s api.Sess) bool {
	if s.State != 0 && s.State != 1 && s.State != 2 || s.In.Next <= 0 || s.In.Next > far || len(s.In.Held) > 64 {
		return false
	}
	last := s.In.Next
	for _, x := range s.In.Held {
		if x.From <= last || x.To <= x.From || x.To > far {
			return false
		}
		last = x.From
	}
	for _, n := range []int64{s.Heard, s.Said, s.Asked, s.When} {
		if n < 0 || n > maxNum {
			return false
		}
	}
	return s.Out > 0 && s.Out <= top && s.Every > 0 && s.Every <= long
}

func wantTime(now int64) bool { return now >= 0 && now <= maxNum }

// words leads a session.
type words struct {
	s          api.Sess
	held       map[int64]api.Item
	said, told []api.Msg
	now        int64
}

func newWords(s api.Sess, now int64) *words {
	w := &words{s: s, held: map[int64]api.Item{}, now: now}
	for _, x := range s.In.Held {
		w.held[x.From] = x
	}
	return w
}

func (w *words) least() int64 {
	least := int64(math.MaxInt64)
	for from := range w.held {
		least = min(least, from)
	}
	return least
}

func (w *words) answer(broken bool) answer {
	w.s.In.Held = nil
	for len(w.held) > 0 {
		from := w.least()
		w.s.In.Held = append(w.s.In.Held, w.held[from])
		delete(w.held, from)
	}
	return answer{s: w.s, said: w.said, told: w.told, broken: broken}
}

func (w *words) says(m api.Msg) {
	if w.s.Out < 1<<40 {
		m.Seq, m.Time = w.s.Out, w.now
		w.said = append(w.said, m)
		w.s.Out, w.s.Said = w.s.Out+1, w.now
	}
}

func (w *words) asks() {
	if len(w.held) > 0 && w.s.State == 2 && w.s.In.Next > w.s.Asked {
		last := w.least() - 1
		if last > w.s.In.Next+9 {
			last = w.s.In.Next + 9
		}
		w.says(api.Msg{Kind: 4, A: w.s.In.Next, B: last})
		w.s.Asked, w.s.When = last, w.now
	}
}

func (w *words) tells(x api.Item) {
	if x.M.Kind == 7 {
		w.told = append(w.told, x.M)
	}
	w.s.In.Next = x.To
}

func (w *words) item(x api.Item) {
	if x.To <= w.s.In.Next {
		return
	}
	if x.From > w.s.In.Next {
		if _, there := w.held[x.From]; !there && len(w.held) < 64 {
			w.held[x.From] = x
		}
		return
	}
	w.tells(x)
	for len(w.held) > 0 && w.least() <= w.s.In.Next {
		y := w.held[w.least()]
		delete(w.held, y.From)
		if y.To > w.s.In.Next {
			w.tells(y)
		}
	}
}

func wantConnect(s api.Sess, now int64) answer {
	if !wantRight(s) || !wantTime(now) {
		return answer{s: s, e: 1}
	}
	if s.State != 0 {
		return answer{s: s, e: 8}
	}
	w := newWords(s, now)
	w.s.State, w.s.Heard = 1, now
	w.says(api.Msg{Kind: 1, A: s.Every})
	w.s.Asked, w.s.Tested = 0, false
	return w.answer(false)
}

func wantCome(s api.Sess, m api.Msg, now int64) answer {
	if !wantRight(s) || !msg.Right(m) || !wantTime(now) {
		return answer{s: s, e: 1}
	}
	if s.State == 0 || s.State == 1 && m.Kind != 1 {
		return answer{s: s, e: 8}
	}
	w := newWords(s, now)
	w.s.State, w.s.Heard, w.s.Tested = 2, now, false
	if m.Kind == 5 && !m.Gap {
		w.s.State = 0
		return w.answer(true)
	}
	if m.Kind == 3 {
		w.says(api.Msg{Kind: 2, Text: m.Text})
	}
	if m.Kind == 4 && m.A < s.Out {
		w.said = append(w.said, api.Msg{Kind: 5, Seq: m.A, Time: now, Copy: true, A: s.Out, Gap: true})
	}
	to := m.Seq + 1
	if m.Kind == 5 && m.A > to {
		to = m.A
	}
	w.item(api.Item{From: m.Seq, To: to, M: m})
	w.asks()
	if m.Kind == 6 {
		w.s.State = 0
	}
	return w.answer(false)
}

func wantTick(s api.Sess, now int64) answer {
	if !wantRight(s) || !wantTime(now) {
		return answer{s: s, e: 1}
	}
	w := newWords(s, now)
	if s.State == 0 {
		return w.answer(false)
	}
	if now-s.Heard >= 3*s.Every {
		w.s.State = 0
		return w.answer(false)
	}
	if s.State == 2 {
		if now-s.Heard >= 2*s.Every && !s.Tested {
			w.says(api.Msg{Kind: 3, Text: "t"})
			w.s.Tested = true
		}
		if now-w.s.Said >= s.Every {
			w.says(api.Msg{Kind: 2})
		}
		if len(w.held) > 0 && now-s.When >= s.Every {
			w.s.Asked = 0
			w.asks()
		}
	}
	return w.answer(false)
}

func wantDrop(s api.Sess) api.Sess {
	if wantRight(s) {
		s.State, s.In.Held = 0, nil
	}
	return s
}

func TestP71New(t *testing.T) {
	for _, every := range []int64{1, 2, 10, 1000, long - 1, long} {
		s, e := New(every)
		want := api.Sess{State: 0, In: api.Line{Next: 1}, Out: 1, Every: every}
		if e != api.OK || !sameSess(s, want) || !Right(s) {
			t.Fatal(every, showSess(s), e)
		}
	}
	for _, every := range []int64{0, -1, -10, long + 1, long * 2, -long, 1<<32 + 1, maxNum, math.MaxInt64, math.MinInt64, math.MinInt64 + 1} {
		if s, e := New(every); e != api.ErrArg || !sameSess(s, api.Sess{}) {
			t.Fatal(every, showSess(s), e)
		}
	}
}

// manyNumbers are at and beside all bounds that the chapter names.
func manyNumbers() []int64 {
	l := []int64{math.MinInt64, math.MinInt64 + 1, math.MaxInt64, math.MaxInt64 - 1, -top, -maxNum, 10, 1 << 32, 1<<32 + 1}
	for n := int64(-2); n <= 3; n++ {
		l = append(l, n, long+n, top+n, far+n, maxNum+n)
	}
	return l
}

// oneOtherwise are sessions in which one number each is any other.
func oneOtherwise(s api.Sess) []api.Sess {
	var l []api.Sess
	for _, n := range manyNumbers() {
		l = append(l,
			with(s, func(s *api.Sess) { s.State = int(n) }),
			with(s, func(s *api.Sess) { s.In.Next = n }),
			with(s, func(s *api.Sess) { s.Out = n }),
			with(s, func(s *api.Sess) { s.Every = n }),
			with(s, func(s *api.Sess) { s.Heard = n }),
			with(s, func(s *api.Sess) { s.Said = n }),
			with(s, func(s *api.Sess) { s.Asked = n }),
			with(s, func(s *api.Sess) { s.When = n }))
		for i := range s.In.Held {
			l = append(l,
				with(s, func(s *api.Sess) { s.In.Held[i].From = n }),
				with(s, func(s *api.Sess) { s.In.Held[i].To = n }))
		}
	}
	return l
}

// wrongSessions aren't right, each in one way.
func wrongSessions() []api.Sess {
	var l []api.Sess
	for state := range 3 {
		for _, seqs := range [][]int64{nil, {7}, {7, 8, 20}} {
			s := on(5, 3, seqs...)
			s.State = state
			for _, x := range oneOtherwise(s) {
				if !wantRight(x) {
					l = append(l, x)
				}
			}
		}
		s := on(5, 3)
		s.State = state
		for i := range int64(65) {
			s.In.Held = append(s.In.Held, held(7+2*i)...)
		}
		l = append(l, s)
	}
	return append(l, api.Sess{})
}

func TestP71Right(t *testing.T) {
	s := on(5, 3)
	table := []struct {
		s    api.Sess
		want bool
	}{
		{s, true}, {api.Sess{}, false}, {api.Sess{In: api.Line{Next: 1}, Out: 1, Every: 1}, true},
		{with(s, func(s *api.Sess) { s.State = -1 }), false},
		{with(s, func(s *api.Sess) { s.State = 0 }), true},
		{with(s, func(s *api.Sess) { s.State = 1 }), true},
		{with(s, func(s *api.Sess) { s.State = 3 }), false},
		{with(s, func(s *api.Sess) { s.Out = 0 }), false},
		{with(s, func(s *api.Sess) { s.Out = -1 }), false},
		{with(s, func(s *api.Sess) { s.Out = 1 }), true},
		{with(s, func(s *api.Sess) { s.Out = 1<<40 - 1 }), true},
		{with(s, func(s *api.Sess) { s.Out = 1 << 40 }), true},
		{with(s, func(s *api.Sess) { s.Out = 1<<40 + 1 }), false},
		{with(s, func(s *api.Sess) { s.Every = 0 }), false},
		{with(s, func(s *api.Sess) { s.Every = 1 }), true},
		{with(s, func(s *api.Sess) { s.Every = 1 << 20 }), true},
		{with(s, func(s *api.Sess) { s.Every = 1<<20 + 1 }), false},
		{with(s, func(s *api.Sess) { s.In.Next = 0 }), false},
		{with(s, func(s *api.Sess) { s.In.Next = 1 << 41 }), true},
		{with(s, func(s *api.Sess) { s.In.Next = 1<<41 + 1 }), false},
		{on(5, 3, 6), true}, {on(5, 3, 5), false}, {on(5, 3, 4), false}, {on(5, 3, 7, 7), false}, {on(5, 3, 8, 7), false}, {on(5, 3, 7, 8), true},
		{with(s, func(s *api.Sess) { s.In.Held = []api.Item{{From: 7, To: 7}} }), false},
		// what the messages of held items are isn't looked at
		{with(s, func(s *api.Sess) { s.In.Held = []api.Item{{From: 7, To: 9, M: api.Msg{Kind: -1, Seq: -3}}} }), true},
		{with(s, func(s *api.Sess) { s.Tested = true }), true},
	}
	for _, set := range []func(s *api.Sess, n int64){
		func(s *api.Sess, n int64) { s.Heard = n }, func(s *api.Sess, n int64) { s.Said = n },
		func(s *api.Sess, n int64) { s.Asked = n }, func(s *api.Sess, n int64) { s.When = n },
	} {
		for n, want := range map[int64]bool{math.MinInt64: false, -1: false, 0: true, 1: true, 1<<62 - 1: true, 1 << 62: true, 1<<62 + 1: false, math.MaxInt64: false} {
			table = append(table, struct {
				s    api.Sess
				want bool
			}{with(s, func(s *api.Sess) { set(s, n) }), want})
		}
	}
	for _, c := range table {
		if got := Right(c.s); got != c.want {
			t.Fatal(showSess(c.s), got)
		}
		if wantRight(c.s) != c.want {
			t.Fatal("the test's own reckoning:", showSess(c.s))
		}
	}
}

func TestP71RightAllOtherwise(t *testing.T) {
	right := 0
	for _, s := range []api.Sess{on(5, 3), on(5, 3, 7), on(1, 1, 2, 3, 9), on(far-9, top, far-1)} {
		for _, x := range oneOtherwise(s) {
			if got := Right(x); got != wantRight(x) {
				t.Fatal(showSess(x), got)
			}
			if wantRight(x) {
				right++
			}
		}
	}
	if right < 200 {
		t.Fatal(right)
	}
}

func TestP71Drop(t *testing.T) {
	for state := range 3 {
		for _, seqs := range [][]int64{nil, {7}, {7, 8, 20}} {
			s := on(5, 3, seqs...)
			s.State, s.Said, s.Asked, s.When, s.Tested = state, 98, 14, 97, true
			got := Drop(s)
			want := api.Sess{State: 0, In: api.Line{Next: 5}, Out: 3, Every: 10, Heard: 100, Said: 98, Asked: 14, When: 97, Tested: true}
			if !sameSess(got, want) || len(got.In.Held) != 0 {
				t.Fatal(showSess(s), showSess(got))
			}
		}
	}
	for _, s := range wrongSessions() {
		if got := Drop(s); !sameSess(got, s) {
			t.Fatal(showSess(s), showSess(got))
		}
	}
}

// someTimes are right ones, wrongTimes aren't.
var (
	someTimes  = []int64{0, 1, 99, 100, 101, 131, maxNum - 1, maxNum}
	wrongTimes = []int64{-1, -2, math.MinInt64, maxNum + 1, maxNum + 2, math.MaxInt64}
)

func TestP72Connect(t *testing.T) {
	for _, now := range someTimes {
		for _, s := range []api.Sess{on(5, 3), on(5, 3, 7, 8), on(1, 1), on(far, top-1), on(far-3, top-1, far-1)} {
			s.State, s.Asked, s.Tested = 0, 14, true
			want := s
			want.State, want.Heard, want.Said, want.Out, want.Asked, want.Tested = 1, now, now, s.Out+1, 0, false
			expect(t, s, api.Msg{}, now, connect(s, now), answer{s: want, said: []api.Msg{saidLogon(s.Out, now, 10)}})
		}
		// nothing is said any more, but all else happens
		s := on(5, top, 7)
		s.State, s.Asked, s.Tested = 0, 14, true
		want := s
		want.State, want.Heard, want.Asked, want.Tested = 1, now, 0, false
		expect(t, s, api.Msg{}, now, connect(s, now), answer{s: want})
	}
	for _, every := range []int64{1, 2, long - 1, long} {
		s, _ := New(every)
		got := connect(s, 7)
		want := api.Sess{State: 1, In: api.Line{Next: 1}, Out: 2, Every: every, Heard: 7, Said: 7}
		expect(t, s, api.Msg{}, 7, got, answer{s: want, said: []api.Msg{saidLogon(1, 7, every)}})
	}
}

func TestP72ConnectErrors(t *testing.T) {
	for state := 1; state <= 2; state++ {
		for _, seqs := range [][]int64{nil, {7}, {7, 9}} {
			s := on(5, 3, seqs...)
			s.State, s.Tested, s.Asked = state, true, 14
			for _, now := range someTimes {
				expect(t, s, api.Msg{}, now, connect(s, now), answer{s: s, e: api.ErrState})
			}
		}
	}
	for state := range 3 {
		s := on(5, 3, 7)
		s.State = state
		for _, now := range wrongTimes {
			expect(t, s, api.Msg{}, now, connect(s, now), answer{s: s, e: api.ErrArg})
		}
	}
	for _, s := range wrongSessions() {
		expect(t, s, api.Msg{}, 100, connect(s, 100), answer{s: s, e: api.ErrArg})
		expect(t, s, api.Msg{}, -1, connect(s, -1), answer{s: s, e: api.ErrArg})
	}
}

// comes is what a message comes to that comes at 105.
type comes struct {
	what string
	s    api.Sess
	m    api.Msg
	want answer
}

func (c comes) check(t *testing.T) {
	t.Helper()
	if got := come(c.s, c.m, 105); !got.same(c.want) {
		t.Fatalf("%s: session %s\n%s\n got %s\nwant %s", c.what, showSess(c.s), showMsgs([]api.Msg{c.m}), got, c.want)
	}
	if got := wantCome(c.s, c.m, 105); !got.same(c.want) {
		t.Fatalf("the test's own reckoning of %s: %s", c.what, got)
	}
}

// heard is a session behind a message that came at 105.
func heard(next, out int64, change func(s *api.Sess), seqs ...int64) api.Sess {
	s := on(next, out, seqs...)
	s.Heard = 105
	if out > 3 && out < top {
		s.Said = 105
	}
	if change != nil {
		change(&s)
	}
	return s
}

func asked(n int64) func(s *api.Sess) {
	return func(s *api.Sess) { s.Asked, s.When = n, 105 }
}

func TestP72ComeInOrder(t *testing.T) {
	off := func(s *api.Sess) { s.State = 0 }
	asks := func(s *api.Sess) { s.State = 1 }
	tested := func(s *api.Sess) { s.Tested = true }
	one := []api.Msg{report(5)}
	for _, c := range []comes{
		{"a logon", with(on(5, 3), asks), logon(5), answer{s: heard(6, 3, nil)}},
		{"a logon of no time", with(on(5, 3), asks), api.Msg{Kind: 1, Seq: 5}, answer{s: heard(6, 3, nil)}},
		{"a logon that fills", with(on(5, 3, 6, 7), asks), logon(5), answer{s: heard(8, 3, nil), told: []api.Msg{report(6), report(7)}}},
		{"a logon, again", with(on(5, 3), asks), logon(4), answer{s: heard(5, 3, nil)}},
		{"a logon that shows a hole", with(on(5, 3), asks), logon(7), answer{s: with(heard(5, 4, asked(6)), func(s *api.Sess) { s.In.Held = []api.Item{{From: 7, To: 8, M: logon(7)}} }), said: []api.Msg{saidResend(3, 105, 5, 6)}}},
		{"a logon while on", on(5, 3), logon(5), answer{s: heard(6, 3, nil)}},
		{"a logon, and what was held", with(on(5, 3, 9), asks), logon(4), answer{s: heard(5, 4, asked(8), 9), said: []api.Msg{saidResend(3, 105, 5, 8)}}},
		{"a report", on(5, 3), report(5), answer{s: heard(6, 3, nil), told: one}},
		{"a report for which others wait", on(5, 3, 6, 7, 9), report(5), answer{s: heard(8, 4, asked(8), 9), told: []api.Msg{report(5), report(6), report(7)}, said: []api.Msg{saidResend(3, 105, 8, 8)}}},
		{"a report, again", on(5, 3), report(4), answer{s: heard(5, 3, nil)}},
		{"a report, again, of long ago", on(5, 3), report(1), answer{s: heard(5, 3, nil)}},
		{"a report out of order", on(5, 3), report(6), answer{s: heard(5, 4, asked(5), 6), said: []api.Msg{saidResend(3, 105, 5, 5)}}},
		{"a report of a test ago", with(on(5, 3), tested), report(5), answer{s: heard(6, 3, nil), told: one}},
		{"a beat", with(on(5, 3), tested), beat(5), answer{s: heard(6, 3, nil)}},
		{"a beat with a text", on(5, 3), api.Msg{Kind: 2, Seq: 5, Text: "t"}, answer{s: heard(6, 3, nil)}},
		{"a beat, again", with(on(5, 3), tested), beat(2), answer{s: heard(5, 3, nil)}},
		{"a test", on(5, 3), test(5, "q"), answer{s: heard(6, 4, nil), said: []api.Msg{saidBeat(3, 105, "q")}}},
		{"a test, again", with(on(5, 3), tested), test(4, "t"), answer{s: heard(5, 4, nil), said: []api.Msg{saidBeat(3, 105, "t")}}},
		{"a test that shows a hole", on(5, 3, 8), test(7, "q"), answer{s: with(heard(5, 5, asked(6), 7, 8), func(s *api.Sess) { s.In.Held[0].M = test(7, "q") }), said: []api.Msg{saidBeat(3, 105, "q"), saidResend(4, 105, 5, 6)}}},
		{"a test at 2^40 - 1", on(5, top-1), test(5, "q"), answer{s: with(heard(6, top, nil), func(s *api.Sess) { s.Said = 105 }), said: []api.Msg{saidBeat(top-1, 105, "q")}}},
		{"a test at 2^40", on(5, top), test(5, "q"), answer{s: heard(6, top, nil)}},
		{"a logout", on(5, 3), logout(5), answer{s: heard(6, 3, off)}},
		{"a logout, again", with(on(5, 3), tested), logout(3), answer{s: heard(5, 3, off)}},
		{"a logout that fills", on(5, 3, 6), logout(5), answer{s: heard(7, 3, off), told: []api.Msg{report(6)}}},
		{"a logout that shows a hole", on(5, 3), logout(7), answer{s: with(heard(5, 4, asked(6)), func(s *api.Sess) { s.State, s.In.Held = 0, []api.Item{{From: 7, To: 8, M: logout(7)}} }), said: []api.Msg{saidResend(3, 105, 5, 6)}}},
		{"a logout at 2^40 that shows a hole", on(5, top), logout(7), answer{s: with(heard(5, top, asked(6)), func(s *api.Sess) { s.State, s.In.Held = 0, []api.Item{{From: 7, To: 8, M: logout(7)}} })}},
		{"a copy", on(5, 3), api.Msg{Kind: 7, Seq: 5, Copy: true, Time: 3, Exec: exec(5)}, answer{s: heard(6, 3, nil), told: []api.Msg{{Kind: 7, Seq: 5, Copy: true, Time: 3, Exec: exec(5)}}}},
	} {
		c.check(t)
	}
}

func TestP72ComeResend(t *testing.T) {
	for _, c := range []comes{
		{"of all", on(5, 3), resend(5, 1, 0), answer{s: heard(6, 3, nil), said: []api.Msg{saidReset(1, 105, 3)}}},
		{"one below Out", on(5, 3), resend(5, 2, 0), answer{s: heard(6, 3, nil), said: []api.Msg{saidReset(2, 105, 3)}}},
		{"of one", on(5, 9), resend(5, 2, 2), answer{s: with(heard(6, 3, nil), func(s *api.Sess) { s.Out = 9 }), said: []api.Msg{saidReset(2, 105, 9)}}},
		{"whose B is below A", on(5, 9), resend(5, 7, 2), answer{s: with(heard(6, 3, nil), func(s *api.Sess) { s.Out = 9 }), said: []api.Msg{saidReset(7, 105, 9)}}},
		{"at Out", on(5, 3), resend(5, 3, 0), answer{s: heard(6, 3, nil)}},
		{"one above Out", on(5, 3), resend(5, 4, 0), answer{s: heard(6, 3, nil)}},
		{"far above Out", on(5, 3), resend(5, top, top), answer{s: heard(6, 3, nil)}},
		{"at 2^40, one below", on(5, top), resend(5, top-1, 0), answer{s: heard(6, top, nil), said: []api.Msg{saidReset(top-1, 105, top)}}},
		{"at 2^40, of all", on(5, top), resend(5, 1, 0), answer{s: heard(6, top, nil), said: []api.Msg{saidReset(1, 105, top)}}},
		{"at 2^40, there", on(5, top), resend(5, top, 0), answer{s: heard(6, top, nil)}},
		{"at 2^40 - 1, one below", on(5, top-1), resend(5, top-2, 0), answer{s: with(heard(6, top-1, nil), func(s *api.Sess) { s.Said = 100 }), said: []api.Msg{saidReset(top-2, 105, top-1)}}},
		{"again", on(5, 3), resend(4, 1, 0), answer{s: heard(5, 3, nil), said: []api.Msg{saidReset(1, 105, 3)}}},
		{"that shows a hole", on(5, 3), resend(7, 2, 0), answer{s: with(heard(5, 4, asked(6)), func(s *api.Sess) { s.In.Held = []api.Item{{From: 7, To: 8, M: resend(7, 2, 0)}} }), said: []api.Msg{saidReset(2, 105, 3), saidResend(3, 105, 5, 6)}}},
		{"that shows a hole, at Out", on(5, 3), resend(7, 3, 0), answer{s: with(heard(5, 4, asked(6)), func(s *api.Sess) { s.In.Held = []api.Item{{From: 7, To: 8, M: resend(7, 3, 0)}} }), said: []api.Msg{saidResend(3, 105, 5, 6)}}},
		{"at nothing said yet", on(5, 1), resend(5, 1, 0), answer{s: heard(6, 1, nil)}},
	} {
		c.check(t)
	}
}

func TestP72ComeReset(t *testing.T) {
	off := func(s *api.Sess) { s.State = 0 }
	holds := func(from, to, a int64) func(s *api.Sess) {
		return func(s *api.Sess) { s.In.Held = []api.Item{{From: from, To: to, M: reset(from, a, true)}} }
	}
	for _, c := range []comes{
		{"below its number", on(5, 3), reset(5, 1, true), answer{s: heard(6, 3, nil)}},
		{"at its number", on(5, 3), reset(5, 5, true), answer{s: heard(6, 3, nil)}},
		{"at one more", on(5, 3), reset(5, 6, true), answer{s: heard(6, 3, nil)}},
		{"at two more", on(5, 3), reset(5, 7, true), answer{s: heard(7, 3, nil)}},
		{"far off", on(5, 3), reset(5, top, true), answer{s: heard(top, 3, nil)}},
		{"from ahead of what is next", on(5, 3), reset(3, 9, true), answer{s: heard(9, 3, nil)}},
		{"from ahead up to what is next", on(5, 3), reset(3, 5, true), answer{s: heard(5, 3, nil)}},
		{"from ahead up to one more", on(5, 3), reset(3, 6, true), answer{s: heard(6, 3, nil)}},
		{"over what is held", on(5, 3, 7, 9), reset(5, 8, true), answer{s: heard(8, 4, asked(8), 9), said: []api.Msg{saidResend(3, 105, 8, 8)}}},
		{"up to what is held", on(5, 3, 7, 9), reset(5, 7, true), answer{s: heard(8, 4, asked(8), 9), told: []api.Msg{report(7)}, said: []api.Msg{saidResend(3, 105, 8, 8)}}},
		{"one short of what is held", on(5, 3, 7), reset(5, 6, true), answer{s: heard(6, 4, asked(6), 7), said: []api.Msg{saidResend(3, 105, 6, 6)}}},
		{"out of order", on(5, 3), reset(7, 9, true), answer{s: with(heard(5, 4, asked(6)), holds(7, 9, 9)), said: []api.Msg{saidResend(3, 105, 5, 6)}}},
		{"out of order, short", on(5, 3), reset(7, 2, true), answer{s: with(heard(5, 4, asked(6)), holds(7, 8, 2)), said: []api.Msg{saidResend(3, 105, 5, 6)}}},
		{"at the last number", on(top, 3), reset(top, top, true), answer{s: heard(top+1, 3, nil)}},
		{"as a copy", on(5, 3), api.Msg{Kind: 5, Seq: 5, A: 8, Gap: true, Copy: true}, answer{s: heard(8, 3, nil)}},
		{"without gap", with(on(5, 3, 7), func(s *api.Sess) { s.Tested, s.Asked = true, 6 }), reset(5, 9, false), answer{s: with(heard(5, 3, off, 7), func(s *api.Sess) { s.Asked = 6 }), broken: true}},
		{"without gap, again", on(5, 3), reset(1, 2, false), answer{s: heard(5, 3, off), broken: true}},
		{"without gap, out of order", on(5, 3), reset(8, 9, false), answer{s: heard(5, 3, off), broken: true}},
		{"without gap, as a copy", on(5, 3), api.Msg{Kind: 5, Seq: 5, A: 8, Copy: true}, answer{s: heard(5, 3, off), broken: true}},
		{"without gap, at 2^40", on(5, top), reset(5, 9, false), answer{s: heard(5, top, off), broken: true}},
	} {
		c.check(t)
	}
}

func TestP72ComeAsks(t *testing.T) {
	// what is missing of 1, 2, 9, 10, 11, 12 numbers, and of very many
	for _, c := range []struct{ seq, b int64 }{{6, 5}, {7, 6}, {14, 13}, {15, 14}, {16, 14}, {17, 14}, {1000, 14}, {top, 14}} {
		comes{"what is missing", on(5, 3), report(c.seq), answer{s: heard(5, 4, asked(c.b), c.seq), said: []api.Msg{saidResend(3, 105, 5, c.b)}}}.check(t)
		comes{"what is missing, at 2^40 - 1", on(5, top-1), report(c.seq),
			answer{s: with(heard(5, top, asked(c.b), c.seq), func(s *api.Sess) { s.Said = 105 }), said: []api.Msg{saidResend(top-1, 105, 5, c.b)}}}.check(t)
		comes{"what is missing, at 2^40", on(5, top), report(c.seq), answer{s: heard(5, top, asked(c.b), c.seq)}}.check(t)
	}
	// Asked below the next number, there, and above it
	for _, n := range []int64{0, 1, 3, 4} {
		s := with(on(5, 3), func(s *api.Sess) { s.Asked = n })
		comes{"asked below", s, report(7), answer{s: heard(5, 4, asked(6), 7), said: []api.Msg{saidResend(3, 105, 5, 6)}}}.check(t)
	}
	for _, n := range []int64{5, 6, 7, 14, 15, far, maxNum} {
		s := with(on(5, 3), func(s *api.Sess) { s.Asked = n })
		comes{"asked", s, report(7), answer{s: with(heard(5, 3, nil, 7), func(s *api.Sess) { s.Asked = n })}}.check(t)
	}
	// Asked up to what was next, when that comes: the next one is above it
	s := with(on(5, 3, 9), func(s *api.Sess) { s.Asked = 5 })
	comes{"the last that was asked", s, report(5), answer{s: heard(6, 4, asked(8), 9), told: []api.Msg{report(5)}, said: []api.Msg{saidResend(3, 105, 6, 8)}}}.check(t)
	s.Asked = 6
	comes{"the last but one that was asked", s, report(5), answer{s: with(heard(6, 3, nil, 9), func(s *api.Sess) { s.Asked = 6 }), told: []api.Msg{report(5)}}}.check(t)
	// numbers that no message may have are asked for all the same
	for _, next := range []int64{top, top + 1, far - 20} {
		s := on(next, 3, next+1)
		comes{"behind the last number", s, beat(1), answer{s: heard(next, 4, asked(next), next+1), said: []api.Msg{saidResend(3, 105, next, next)}}}.check(t)
	}
	comes{"up to the end", on(far-3, 3, far-1), beat(1), answer{s: heard(far-3, 4, asked(far-2), far-1), said: []api.Msg{saidResend(3, 105, far-3, far-2)}}}.check(t)
}

// TestP72ComeFull: what finds no room isn't held, but is heard and answered.
func TestP72ComeFull(t *testing.T) {
	s := on(5, 3)
	for n := int64(7); n < 71; n++ {
		s.In.Held = append(s.In.Held, held(n)...)
	}
	want := with(s, func(s *api.Sess) { s.Heard, s.Said, s.Out, s.Asked, s.When = 105, 105, 4, 6, 105 })
	comes{"no room", s, report(80), answer{s: want, said: []api.Msg{saidResend(3, 105, 5, 6)}}}.check(t)
	comes{"no room", s, report(6), answer{s: want, said: []api.Msg{saidResend(3, 105, 5, 6)}}}.check(t)
	want.Out = 5
	comes{"no room for a test", s, test(71, "q"), answer{s: want, said: []api.Msg{saidBeat(3, 105, "q"), saidResend(4, 105, 5, 6)}}}.check(t)
}

// TestP72HeldMessages: whatever the messages of held items are, Reports among
// them are told as they are.
func TestP72HeldMessages(t *testing.T) {
	odd := []api.Item{{From: 6, To: 9, M: api.Msg{Kind: 7, Seq: -4}}, {From: 8, To: 10, M: api.Msg{Kind: 77}}, {From: 9, To: 11, M: report(900)}, {From: 20, To: far, M: api.Msg{Kind: 6, Seq: 20}}}
	s := with(on(5, 3), func(s *api.Sess) { s.In.Held = odd })
	want := with(heard(11, 4, asked(19)), func(s *api.Sess) { s.In.Held = odd[3:] })
	comes{"odd ones", s, beat(5), answer{s: want, told: []api.Msg{{Kind: 7, Seq: -4}, report(900)}, said: []api.Msg{saidResend(3, 105, 11, 19)}}}.check(t)
	// a Logout, a Test and a Reset that were held have counted when they came
	s.In.Held = []api.Item{{From: 6, To: 7, M: logout(6)}, {From: 7, To: 8, M: test(7, "q")}, {From: 8, To: 9, M: reset(8, 99, false)}, {From: 9, To: 10, M: resend(9, 1, 0)}, {From: 10, To: 11, M: report(10)}}
	comes{"held ones", s, report(5), answer{s: heard(11, 3, nil), told: []api.Msg{report(5), report(10)}}}.check(t)
}

func TestP72ComeErrors(t *testing.T) {
	messages := []api.Msg{logon(5), beat(5), test(5, "q"), resend(5, 1, 0), reset(5, 9, true), reset(5, 9, false), logout(5), report(5), logon(1), logout(top), report(9)}
	for state := range 3 {
		for _, seqs := range [][]int64{nil, {7}, {7, 9}} {
			s := on(5, 3, seqs...)
			s.State, s.Tested, s.Asked = state, true, 3
			for _, m := range messages {
				for _, now := range someTimes {
					if state == 0 || state == 1 && m.Kind != api.Logon {
						expect(t, s, m, now, come(s, m, now), answer{s: s, e: api.ErrState})
					} else if got := come(s, m, now); got.e != api.OK {
						t.Fatal(showSess(s), showMsgs([]api.Msg{m}), got)
					}
				}
				for _, now := range wrongTimes {
					expect(t, s, m, now, come(s, m, now), answer{s: s, e: api.ErrArg})
				}
			}
			for _, m := range wrongMessages() {
				if msg.Right(m) {
					t.Fatal("the test's own message is right:", showMsgs([]api.Msg{m}))
				}
				expect(t, s, m, 105, come(s, m, 105), answer{s: s, e: api.ErrArg})
				expect(t, s, m, -1, come(s, m, -1), answer{s: s, e: api.ErrArg})
			}
		}
	}
	for _, s := range wrongSessions() {
		for _, m := range append(messages, api.Msg{}) {
			expect(t, s, m, 105, come(s, m, 105), answer{s: s, e: api.ErrArg})
		}
	}
}

// wrongMessages may not be, each in one way.
func wrongMessages() []api.Msg {
	l := []api.Msg{{}, {Kind: 0, Seq: 5}, {Kind: 8, Seq: 5}, {Kind: -1, Seq: 5}, test(5, ""), test(5, strings.Repeat("q", 65)), test(5, "\x01"), reset(5, 0, true), reset(5, -1, true), reset(5, top+1, true),
		resend(5, 0, 0), resend(5, 1, -1), resend(5, 1, top+1), resend(5, top+1, 0), {Kind: api.Report, Seq: 5}, {Kind: api.Logon, Seq: 5, A: -1}, {Kind: api.Logon, Seq: 5, A: top + 1}}
	for _, n := range []int64{0, -1, top + 1, math.MinInt64, math.MaxInt64} {
		l = append(l, logon(n), beat(n), test(n, "q"), resend(n, 1, 0), reset(n, 9, true), reset(n, 9, false), logout(n), api.Msg{Kind: api.Report, Seq: n, Exec: exec(1)})
	}
	for _, m := range []api.Msg{logon(5), beat(5), test(5, "q"), resend(5, 1, 0), reset(5, 9, true), reset(5, 9, false), logout(5), report(5)} {
		for _, n := range wrongTimes {
			m.Time = n
			l = append(l, m)
		}
		m.Time = 0
		if m.Kind != api.Report {
			m.Exec = exec(1)
			l = append(l, m)
			m.Exec = api.Exec{}
		}
		if m.Kind != api.Resend {
			m.B = 1
			l = append(l, m)
			m.B = 0
		}
		if m.Kind != api.Reset {
			m.Gap = true
			l = append(l, m)
		}
	}
	return l
}

func TestP72Tick(t *testing.T) {
	// it was heard at 100, Every is 10
	for now, state := range map[int64]int{0: 2, 99: 2, 100: 2, 109: 2, 119: 2, 120: 2, 121: 2, 128: 2, 129: 2, 130: 0, 131: 0, 1000: 0, maxNum: 0} {
		s := with(on(5, 3), func(s *api.Sess) { s.Said, s.Tested = max(now-1, 0), true })
		want := with(s, func(s *api.Sess) { s.State = state })
		expect(t, s, api.Msg{}, now, tick(s, now), answer{s: want})
		// it waits for a logon no longer
		s.State = 1
		if state != 0 {
			want.State = 1
		}
		expect(t, s, api.Msg{}, now, tick(s, now), answer{s: want})
		// off: nothing
		s.State = 0
		expect(t, s, api.Msg{}, now, tick(s, now), answer{s: s})
	}
	// in Asks and Off nothing is said, whatever is due
	for state := range 2 {
		s := with(on(5, 3, 9), func(s *api.Sess) { s.State, s.Said, s.When = state, 0, 0 })
		for _, now := range []int64{100, 110, 120, 129} {
			expect(t, s, api.Msg{}, now, tick(s, now), answer{s: s})
		}
	}
}

func TestP72TickTests(t *testing.T) {
	for _, now := range []int64{0, 50, 100, 110, 118, 119} {
		s := with(on(5, 3), func(s *api.Sess) { s.Said = now })
		expect(t, s, api.Msg{}, now, tick(s, now), answer{s: s})
	}
	for _, now := range []int64{120, 121, 129} {
		s := with(on(5, 3), func(s *api.Sess) { s.Said = now })
		want := with(s, func(s *api.Sess) { s.Out, s.Tested = 4, true })
		expect(t, s, api.Msg{}, now, tick(s, now), answer{s: want, said: []api.Msg{saidTest(3, now)}})
		// it tests once
		s.Tested = true
		expect(t, s, api.Msg{}, now, tick(s, now), answer{s: s})
		// a Beat is due, too: the Test is said in its place
		s = on(5, 3)
		want = with(s, func(s *api.Sess) { s.Out, s.Said, s.Tested = 4, now, true })
		expect(t, s, api.Msg{}, now, tick(s, now), answer{s: want, said: []api.Msg{saidTest(3, now)}})
		// the number is the last one
		s = on(5, top-1)
		want = with(s, func(s *api.Sess) { s.Out, s.Said, s.Tested = top, now, true })
		expect(t, s, api.Msg{}, now, tick(s, now), answer{s: want, said: []api.Msg{saidTest(top-1, now)}})
		// there is none: it has tested all the same
		s = on(5, top)
		want = with(s, func(s *api.Sess) { s.Tested = true })
		expect(t, s, api.Msg{}, now, tick(s, now), answer{s: want})
		// it has tested: the Beat is said
		s = with(on(5, 3), func(s *api.Sess) { s.Tested = true })
		want = with(s, func(s *api.Sess) { s.Out, s.Said = 4, now })
		expect(t, s, api.Msg{}, now, tick(s, now), answer{s: want, said: []api.Msg{saidBeat(3, now, "")}})
	}
}

func TestP72TickBeats(t *testing.T) {
	for now, due := range map[int64]bool{0: false, 99: false, 100: false, 101: false, 108: false, 109: false, 110: true, 111: true, 119: true} {
		for _, out := range []int64{1, 3, top - 1, top} {
			s := on(5, out)
			want := answer{s: s}
			if due && out < top {
				want = answer{s: with(s, func(s *api.Sess) { s.Out, s.Said = out+1, now }), said: []api.Msg{saidBeat(out, now, "")}}
			}
			expect(t, s, api.Msg{}, now, tick(s, now), want)
		}
	}
	// at each Every
	for _, every := range []int64{1, 2, 3, long - 1, long} {
		for _, ago := range []int64{every - 1, every, every + 1} {
			s := with(on(5, 3), func(s *api.Sess) { s.Every, s.Heard, s.Said = every, 100+ago, 100 })
			now := 100 + ago
			want := answer{s: s}
			if ago >= every {
				want = answer{s: with(s, func(s *api.Sess) { s.Out, s.Said = 4, now }), said: []api.Msg{saidBeat(3, now, "")}}
			}
			expect(t, s, api.Msg{}, now, tick(s, now), want)
		}
	}
}

func TestP72TickAsks(t *testing.T) {
	for now, due := range map[int64]bool{0: false, 99: false, 100: false, 108: false, 109: false, 110: true, 111: true, 119: true} {
		for _, n := range []int64{0, 4, 5, 6, 14, 99, maxNum} {
			s := with(on(5, 3, 8), func(s *api.Sess) { s.Asked, s.Said = n, now })
			want := answer{s: s}
			if due {
				want = answer{s: with(s, func(s *api.Sess) { s.Out, s.Asked, s.When = 4, 7, now }), said: []api.Msg{saidResend(3, now, 5, 7)}}
			}
			expect(t, s, api.Msg{}, now, tick(s, now), want)
			// at 2^40 it isn't said, but asked it has
			s.Out = top
			want = answer{s: s}
			if due {
				want = answer{s: with(s, func(s *api.Sess) { s.Asked, s.When = 7, now })}
			}
			expect(t, s, api.Msg{}, now, tick(s, now), want)
			// nothing is missing
			s = with(on(5, 3), func(s *api.Sess) { s.Asked, s.Said = n, now })
			expect(t, s, api.Msg{}, now, tick(s, now), answer{s: s})
		}
	}
	for _, c := range []struct{ seq, b int64 }{{6, 5}, {14, 13}, {15, 14}, {16, 14}, {17, 14}, {top, 14}} {
		s := with(on(5, 3, c.seq), func(s *api.Sess) { s.Said, s.Asked = 110, 40 })
		want := with(s, func(s *api.Sess) { s.Out, s.Asked, s.When = 4, c.b, 110 })
		expect(t, s, api.Msg{}, 110, tick(s, 110), answer{s: want, said: []api.Msg{saidResend(3, 110, 5, c.b)}})
	}
	// a Beat ahead of it, a Test ahead of it
	s := on(5, 3, 8)
	want := with(s, func(s *api.Sess) { s.Out, s.Said, s.Asked, s.When = 5, 110, 7, 110 })
	expect(t, s, api.Msg{}, 110, tick(s, 110), answer{s: want, said: []api.Msg{saidBeat(3, 110, ""), saidResend(4, 110, 5, 7)}})
	want = with(s, func(s *api.Sess) { s.Out, s.Said, s.Asked, s.When, s.Tested = 5, 120, 7, 120, true })
	expect(t, s, api.Msg{}, 120, tick(s, 120), answer{s: want, said: []api.Msg{saidTest(3, 120), saidResend(4, 120, 5, 7)}})
	// the last number is for the first of them
	s.Out = top - 1
	want = with(s, func(s *api.Sess) { s.Out, s.Said, s.Asked, s.When, s.Tested = top, 120, 7, 120, true })
	expect(t, s, api.Msg{}, 120, tick(s, 120), answer{s: want, said: []api.Msg{saidTest(top-1, 120)}})
}

func TestP72TickErrors(t *testing.T) {
	for state := range 3 {
		s := on(5, 3, 7)
		s.State = state
		for _, now := range wrongTimes {
			expect(t, s, api.Msg{}, now, tick(s, now), answer{s: s, e: api.ErrArg})
		}
	}
	for _, s := range wrongSessions() {
		for _, now := range []int64{0, 100, 130, maxNum, -1} {
			expect(t, s, api.Msg{}, now, tick(s, now), answer{s: s, e: api.ErrArg})
		}
	}
}

// TestP72AllTicks holds what time does against the chapter's words, at all
// times around those that count.
func TestP72AllTicks(t *testing.T) {
	const every = 3
	for state := range 3 {
		for _, out := range []int64{1, top - 2, top - 1, top} {
			for _, h := range []int64{0, 5, 8, 10} {
				for said := int64(4); said <= 12; said++ {
					for when := int64(4); when <= 12; when += 2 {
						for _, asked := range []int64{0, 2, 3, 4} {
							for flags := range 4 {
								s := api.Sess{State: state, In: api.Line{Next: 3}, Out: out, Every: every, Heard: h, Said: said, Asked: asked, When: when, Tested: flags&1 == 1}
								if flags&2 == 2 {
									s.In.Held = held(5)
								}
								for now := int64(0); now <= 20; now++ {
									expect(t, s, api.Msg{}, now, tick(s, now), wantTick(s, now))
								}
							}
						}
					}
				}
			}
		}
	}
}

// TestP72TimesFarApart: a time that lies ahead isn't long ago, and none goes over.
func TestP72TimesFarApart(t *testing.T) {
	times := []int64{0, 1, 3*long - 1, 3 * long, maxNum - 3*long, maxNum - 1, maxNum}
	for _, every := range []int64{1, long} {
		for _, h := range times {
			for _, said := range times {
				for _, when := range times {
					for _, now := range times {
						s := api.Sess{State: 2, In: api.Line{Next: 3, Held: held(5)}, Out: 9, Every: every, Heard: h, Said: said, Asked: 4, When: when}
						expect(t, s, api.Msg{}, now, tick(s, now), wantTick(s, now))
						s.State = 1
						expect(t, s, api.Msg{}, now, tick(s, now), wantTick(s, now))
					}
				}
			}
		}
	}
}

// manyMessages are of each kind, around what is next.
func manyMessages() []api.Msg {
	var l []api.Msg
	for _, seq := range []int64{1, 4, 5, 6, 7, 8, 15, 16, 17, top} {
		l = append(l, logon(seq), beat(seq), test(seq, "q"), logout(seq), report(seq))
		for _, a := range []int64{1, 2, 3, 4, 5, 6, 7, 8, 9, top - 1, top} {
			l = append(l, resend(seq, a, 0), reset(seq, a, true), reset(seq, a, false))
		}
	}
	return l
}

// TestP72AllMessages holds what messages come to against the chapter's words.
func TestP72AllMessages(t *testing.T) {
	messages := manyMessages()
	for state := range 3 {
		for _, out := range []int64{1, 3, top - 2, top - 1, top} {
			for _, asked := range []int64{0, 4, 5, 6, 7, 14, 15} {
				for _, seqs := range [][]int64{nil, {6}, {7}, {6, 8}, {7, 8}, {15}, {16}, {6, 7, 8, 17}} {
					s := on(5, out, seqs...)
					s.State, s.Asked, s.Tested = state, asked, asked%2 == 0
					for _, m := range messages {
						expect(t, s, m, 105, come(s, m, 105), wantCome(s, m, 105))
					}
				}
			}
		}
	}
}

// TestP73Example is that of the chapter.
func TestP73Example(t *testing.T) {
	got := come(on(2, 3), report(5), 105)
	if got.e != api.OK || len(got.told) != 0 || !slices.Equal(got.said, []api.Msg{saidResend(3, 105, 2, 4)}) {
		t.Fatal(got)
	}
}

// peer follows one session over what it does, and looks whether it keeps what
// is promised.
type peer struct {
	t          *testing.T
	s          api.Sess
	now        int64
	told       int64 // the number of the last Report that was told
	reports    []api.Msg
	said       int64 // the last number that was said
	asked      []api.Msg
	next, acts int64
}

func newPeer(t *testing.T, every int64) *peer {
	s, e := New(every)
	if e != api.OK {
		t.Fatal(e)
	}
	return &peer{t: t, s: s, next: 1}
}

// take goes on from what an act answered.
func (p *peer) take(got, want answer) {
	p.t.Helper()
	p.acts++
	if !got.same(want) {
		p.t.Fatalf("act %d: session %s\nat %d\n got %s\nwant %s", p.acts, showSess(p.s), p.now, got, want)
	}
	if !Right(got.s) {
		p.t.Fatal("no right session behind it:", showSess(got.s))
	}
	for _, m := range got.told {
		if m.Kind != api.Report || m.Seq <= p.told {
			p.t.Fatal(p.told, showMsgs(got.told))
		}
		p.told = m.Seq
	}
	p.reports = append(p.reports, got.told...)
	for _, m := range got.said {
		if m.Time != p.now {
			p.t.Fatal(p.now, showMsgs(got.said))
		}
		if m.Kind == api.Reset && m.Copy && m.Gap {
			if m.Seq > p.said || m.A != p.said+1 {
				p.t.Fatal(p.said, showMsgs(got.said))
			}
			continue
		}
		if m.Seq != p.said+1 {
			p.t.Fatal(p.said, showMsgs(got.said))
		}
		p.said = m.Seq
		if m.Kind == api.Resend {
			p.asked = append(p.asked, m)
			if m.A != got.s.In.Next || m.B < m.A || m.B > m.A+9 {
				p.t.Fatal(showSess(got.s), showMsgs(got.said))
			}
		}
	}
	if got.s.In.Next < p.next || got.s.Out != p.said+1 {
		p.t.Fatal(p.next, p.said, showSess(got.s))
	}
	p.next = got.s.In.Next
	p.s = got.s
}

func (p *peer) connect() {
	p.t.Helper()
	p.take(connect(p.s, p.now), wantConnect(p.s, p.now))
}

func (p *peer) come(m api.Msg) answer {
	p.t.Helper()
	got := come(p.s, m, p.now)
	p.take(got, wantCome(p.s, m, p.now))
	return got
}

func (p *peer) tick() {
	p.t.Helper()
	p.take(tick(p.s, p.now), wantTick(p.s, p.now))
}

func (p *peer) drop() {
	p.t.Helper()
	p.take(answer{s: Drop(p.s)}, answer{s: wantDrop(p.s)})
}

// anyMessage is one that the venue may have said, near to what is next.
func anyMessage(r *rand.Rand, next int64) api.Msg {
	seq := max(1, next+r.Int64N(30)-8)
	switch r.IntN(24) {
	case 0:
		return beat(seq)
	case 1:
		return test(seq, "q")
	case 2:
		return resend(seq, 1+r.Int64N(40), 0)
	case 3:
		return reset(seq, max(1, seq+r.Int64N(12)-4), true)
	case 4:
		return logon(seq)
	case 5:
		if r.IntN(6) == 0 {
			return reset(seq, 1+r.Int64N(40), false)
		}
		return logout(seq)
	}
	return report(seq)
}

// TestP73ManyActs lets a session do and hear anything, in any order.
func TestP73ManyActs(t *testing.T) {
	states := map[int]int{}
	for seed := range uint64(150) {
		r := rand.New(rand.NewPCG(7, seed))
		p := newPeer(t, 1+r.Int64N(20))
		for range 600 {
			p.now += r.Int64N(4)
			switch r.IntN(30) {
			case 0, 1:
				p.connect()
			case 2, 3, 4:
				p.tick()
			case 5:
				if r.IntN(4) == 0 {
					p.drop()
				}
			case 6:
				p.come(logon(max(1, p.s.In.Next+r.Int64N(4)-1)))
			default:
				p.come(anyMessage(r, p.s.In.Next))
			}
			states[p.s.State]++
		}
	}
	if states[0] < 1000 || states[1] < 1000 || states[2] < 1000 {
		t.Fatal("too few of a state:", states)
	}
}

// venue is the other side: what it has said, by number, and what is on the way.
type venue struct {
	log []api.Msg
	way []api.Msg
}

func (v *venue) say(m api.Msg) {
	m.Seq = int64(len(v.log)) + 1
	if m.Kind == api.Report {
		m.Exec = exec(m.Seq)
	}
	v.log = append(v.log, m)
	v.way = append(v.way, m)
}

// hear answers what the session says: a Test by a Beat, a Resend by the
// Reports that are asked for, and a Reset with Gap for others.
func (v *venue) hear(m api.Msg) {
	switch m.Kind {
	case api.Logon:
		v.say(api.Msg{Kind: api.Logon, A: m.A})
	case api.Test:
		v.say(api.Msg{Kind: api.Beat, Text: m.Text})
	case api.Resend:
		for n := m.A; n <= m.B && n <= int64(len(v.log)); n++ {
			again := v.log[n-1]
			if again.Kind != api.Report {
				again = api.Msg{Kind: api.Reset, Seq: n, A: n + 1, Gap: true}
			}
			again.Copy = true
			v.way = append(v.way, again)
		}
	}
}

// TestP73AllIsHeard has a venue and a session talk over a way that loses,
// repeats and mixes, and then no more: then all its Reports are told.
func TestP73AllIsHeard(t *testing.T) {
	batches := 0
	for seed := range uint64(60) {
		r := rand.New(rand.NewPCG(73, seed))
		p, v := newPeer(t, 10), &venue{}
		lost := 0.05 + 0.4*r.Float64()
		for step := 0; step < 600 || p.next <= int64(len(v.log)); step++ {
			if step > 60000 {
				t.Fatal(seed, "it doesn't come to an end:", showSess(p.s), len(v.log))
			}
			p.now++
			goOn(p, v, r, step < 500, lost)
			if step < 400 && r.IntN(3) == 0 {
				v.say(api.Msg{Kind: api.Report})
			}
			if step%9 == 0 {
				v.say(api.Msg{Kind: api.Beat})
			}
		}
		var want []int64
		for _, m := range v.log {
			if m.Kind == api.Report {
				want = append(want, m.Seq)
			}
		}
		for i, m := range p.reports {
			if i >= len(want) || m.Seq != want[i] || m.Exec != exec(m.Seq) {
				t.Fatal(seed, i, showMsgs([]api.Msg{m}))
			}
		}
		if len(p.reports) != len(want) {
			t.Fatal(seed, len(p.reports), len(want), showSess(p.s))
		}
		for _, m := range p.asked {
			if m.B == m.A+9 {
				batches++
			}
		}
	}
	if batches < 10 {
		t.Fatal("few whole batches were asked for:", batches)
	}
}

// goOn lets a session connect, if it is Off, hear what is on the way, and
// wait; what it says goes to the venue.
func goOn(p *peer, v *venue, r *rand.Rand, rough bool, lost float64) {
	if p.s.State == api.Off {
		v.way = nil
		p.both(v, rough && r.Float64() < lost, connect(p.s, p.now), wantConnect(p.s, p.now))
	}
	if rough && r.IntN(100) == 0 {
		p.drop()
		return
	}
	if rough && len(v.way) > 1 && r.IntN(4) == 0 {
		r.Shuffle(len(v.way), func(i, j int) { v.way[i], v.way[j] = v.way[j], v.way[i] })
	}
	for many := r.IntN(4); many > 0 && len(v.way) > 0 && p.s.State != api.Off; many-- {
		m := v.way[0]
		if !rough || r.IntN(5) > 0 {
			v.way = v.way[1:]
		}
		if !rough || r.Float64() > lost {
			p.both(v, rough && r.Float64() < lost, come(p.s, m, p.now), wantCome(p.s, m, p.now))
		}
	}
	p.both(v, rough && r.Float64() < lost, tick(p.s, p.now), wantTick(p.s, p.now))
}

// both goes on from what an act answered; the venue hears what was said, if
// it isn't lost.
func (p *peer) both(v *venue, lost bool, got, want answer) {
	p.t.Helper()
	p.take(got, want)
	for _, m := range got.said {
		if !lost {
			v.hear(m)
		}
	}
}

// TestP73BatchByBatch fills a hole of 34 numbers.
func TestP73BatchByBatch(t *testing.T) {
	p := newPeer(t, 10)
	p.connect()
	p.come(logon(1))
	for n := int64(36); n < 40; n++ {
		p.come(report(n))
	}
	for n := int64(2); n < 36; n++ {
		p.come(report(n))
		p.come(report(n))
	}
	want := []api.Msg{saidResend(2, 0, 2, 11), saidResend(3, 0, 12, 21), saidResend(4, 0, 22, 31), saidResend(5, 0, 32, 35)}
	if !slices.Equal(p.asked, want) {
		t.Fatal(showMsgs(p.asked))
	}
	for i, m := range p.reports {
		if m != report(int64(i)+2) {
			t.Fatal(i, showMsgs(p.reports))
		}
	}
	if len(p.reports) != 38 || p.s.In.Next != 40 || len(p.s.In.Held) != 0 {
		t.Fatal(showSess(p.s), len(p.reports))
	}
}

// TestP73Life leads one session from its beginning on: it tests, is Off, is
// connected again, and goes on where it was.
func TestP73Life(t *testing.T) {
	p := newPeer(t, 10)
	p.now = 5
	p.connect()
	p.now = 34
	p.tick()
	if p.s.State != api.Asks {
		t.Fatal(showSess(p.s))
	}
	p.now = 35
	p.tick()
	if p.s.State != api.Off || p.s.Out != 2 {
		t.Fatal("nobody answered:", showSess(p.s))
	}
	p.connect()
	p.come(logon(1))
	p.come(report(2))
	p.come(report(5))
	for p.now = 36; p.s.State == api.On; p.now++ {
		p.tick()
	}
	// Logon 1, Logon 2, Resend 3; at 45 and 55 (heard and said at 35): a Beat
	// and a Resend, a Test and a Resend
	if p.now != 66 || p.s.Out != 8 || !p.s.Tested || len(p.s.In.Held) != 1 || p.s.In.Next != 3 {
		t.Fatal(p.now, showSess(p.s))
	}
	p.connect()
	if got := p.come(logon(6)); len(got.said) != 1 || got.said[0] != saidResend(9, 66, 3, 4) {
		t.Fatal(got)
	}
	if got := p.come(reset(3, 5, true)); !slices.Equal(got.told, []api.Msg{report(5)}) || p.s.In.Next != 7 {
		t.Fatal(got)
	}
	p.come(report(9))
	p.drop()
	if p.s.In.Next != 7 || len(p.s.In.Held) != 0 {
		t.Fatal(showSess(p.s))
	}
	p.connect()
	p.come(logon(7))
	p.come(report(8))
	p.come(report(9))
	if got := p.come(logout(10)); p.s.State != api.Off || len(got.said) != 0 || got.broken {
		t.Fatal(got)
	}
	var seqs []int64
	for _, m := range p.reports {
		seqs = append(seqs, m.Seq)
	}
	if !slices.Equal(seqs, []int64{2, 5, 8, 9}) {
		t.Fatal(seqs)
	}
}

// withRoom lays what is held ahead of spare room, in which something stands.
func withRoom(s api.Sess) (given api.Sess, whole []api.Item) {
	whole = append(slices.Clone(s.In.Held), held(900, 901, 902)...)
	s.In.Held = whole[:len(s.In.Held)]
	return s, whole
}

func scribbleItems(l []api.Item) {
	l = l[:cap(l)]
	for i := range l {
		l[i] = api.Item{From: -1, To: -1, M: api.Msg{Kind: -1}}
	}
}

func scribbleMsgs(l []api.Msg) {
	l = l[:cap(l)]
	for i := range l {
		l[i] = api.Msg{Kind: -1}
	}
}

// someActs are all acts of all kinds of sessions.
func someActs(try func(s api.Sess, act func(s api.Sess) answer)) {
	full := on(5, 3)
	for n := int64(7); n < 71; n++ {
		full.In.Held = append(full.In.Held, held(n)...)
	}
	sessions := []api.Sess{on(5, 3), on(5, 3, 6), on(5, 3, 6, 7, 9), on(5, 3, 8, 9), on(5, top, 6, 8), full, with(full, func(s *api.Sess) { s.In.Held = append(s.In.Held, held(99)...) }), on(5, 3, 5), {In: api.Line{Held: held(3, 4)}}}
	for _, s := range sessions {
		for state := range 4 {
			s.State = state
			for _, now := range []int64{-1, 100, 110, 120, 130} {
				try(s, func(s api.Sess) answer { return connect(s, now) })
				try(s, func(s api.Sess) answer { return tick(s, now) })
				for _, m := range []api.Msg{{}, logon(5), report(5), report(7), report(99), test(8, "q"), test(5, "q"), resend(7, 1, 0), reset(5, 8, true), reset(5, 8, false), logout(6), logout(5)} {
					try(s, func(s api.Sess) answer { return come(s, m, now) })
				}
			}
			try(s, func(s api.Sess) answer { return answer{s: Drop(s)} })
			try(s, func(s api.Sess) answer {
				Right(s)
				return answer{}
			})
		}
	}
}

func TestArgumentsAreLeftAlone(t *testing.T) {
	someActs(func(s api.Sess, act func(s api.Sess) answer) {
		given, whole := withRoom(s)
		before := slices.Clone(whole)
		got, want := act(given), act(s)
		if !slices.Equal(whole, before) {
			t.Fatal("what was handed in is changed:", showSess(s))
		}
		if !got.same(want) {
			t.Fatalf("%s\nwant %s", got, want)
		}
		scribbleItems(got.s.In.Held)
		scribbleMsgs(got.said)
		scribbleMsgs(got.told)
		if !slices.Equal(whole, before) {
			t.Fatal("an answer shares memory with what was handed in:", showSess(s))
		}
	})
}

func TestAnswersAreNew(t *testing.T) {
	someActs(func(s api.Sess, act func(s api.Sess) answer) {
		want := act(s)
		for at := range 3 {
			got := act(s)
			part := want
			switch at {
			case 0:
				scribbleItems(got.s.In.Held)
				part.s.In.Held = got.s.In.Held
			case 1:
				scribbleMsgs(got.said)
				part.said = got.said
			case 2:
				scribbleMsgs(got.told)
				part.told = got.told
			}
			if !got.same(part) {
				t.Fatal("two lists of one answer share memory:", showSess(s))
			}
			if !act(s).same(want) {
				t.Fatal("an answer is kept:", showSess(s))
			}
		}
	})
}
