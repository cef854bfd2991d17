package timer

import (
	"errors"
	"math"
	"slices"
	"testing"

	"sigillum/api"
)

// model has no times: it counts each one's ticks down, and works the order out from the stamps of when they were set.
type model struct {
	now   int
	left  map[int]int
	stamp map[int]int
	last  int
}

func (m *model) set(id, ticks int) error {
	_, is := m.left[id]
	switch {
	case ticks <= 0 || ticks >= 1000001:
		return api.ErrArgument
	case !is && len(m.left) == 64:
		return api.ErrFull
	}
	m.last++
	m.left[id], m.stamp[id] = ticks, m.last
	return nil
}

func (m *model) cancel(id int) bool {
	_, is := m.left[id]
	delete(m.left, id)
	delete(m.stamp, id)
	return is
}

func (m *model) tick() []int {
	m.now++
	var ringing []int
	for id := range m.left {
		m.left[id]--
		if m.left[id] == 0 {
			ringing = append(ringing, id)
		}
	}
	slices.SortFunc(ringing, func(a, b int) int { return m.stamp[a] - m.stamp[b] })
	for _, id := range ringing {
		m.cancel(id)
	}
	return ringing
}

// like tells whether an error is the one that is asked for, or none where none is.
func like(err, want error) bool {
	if want == nil {
		return err == nil
	}
	return errors.Is(err, want) && api.Number(err) == api.Number(want)
}

// far is ids at all bounds.
var far = []int{math.MinInt, math.MinInt + 1, -1 << 62, math.MinInt32 - 1, math.MinInt32, -1000001, -65, -64, -63, -2, -1, 0, 1, 2, 62, 63, 64, 65, 127, 128, 1000001, math.MaxInt32, math.MaxInt32 + 1, 1 << 32, 1<<32 + 1, 1 << 62, math.MaxInt - 1, math.MaxInt}

// wrong is ticks that nothing can be set to.
var wrong = []int{0, -1, -2, -64, -1000000, -1000001, math.MinInt32, -1 << 32, -1<<32 + 1, math.MinInt + 1, math.MinInt, 1000001, 1000002, 2000000, math.MaxInt32, 1 << 32, 1<<32 + 1, 1 << 62, math.MaxInt - 1, math.MaxInt}

// pair is a timer, and the model of it.
type pair struct {
	x *Timer
	m *model
}

func fresh() pair {
	return pair{&Timer{}, &model{left: map[int]int{}, stamp: map[int]int{}}}
}

// same holds all that can be seen of the timer against the model.
func (p pair) same(t *testing.T, after string) {
	t.Helper()
	if got := p.x.Now(); got != p.m.now {
		t.Fatalf("after %s: Now %d, want %d", after, got, p.m.now)
	}
	for id, want := range p.m.left {
		if got, ok := p.x.Left(id); got != want || !ok {
			t.Fatalf("after %s: Left(%d) %d, %v, want %d, true", after, id, got, ok, want)
		}
	}
	for _, id := range far {
		want, is := p.m.left[id]
		if got, ok := p.x.Left(id); got != want || ok != is {
			t.Fatalf("after %s: Left(%d) %d, %v, want %d, %v", after, id, got, ok, want, is)
		}
	}
}

func (p pair) set(t *testing.T, id, ticks int) {
	t.Helper()
	want := p.m.set(id, ticks)
	if err := p.x.Set(id, ticks); !like(err, want) {
		t.Fatalf("Set(%d, %d): %v, want %v", id, ticks, err, want)
	}
	p.same(t, "Set")
}

func (p pair) cancel(t *testing.T, id int) {
	t.Helper()
	want := p.m.cancel(id)
	if got := p.x.Cancel(id); got != want {
		t.Fatalf("Cancel(%d): %v, want %v", id, got, want)
	}
	if got, ok := p.x.Left(id); got != 0 || ok {
		t.Fatalf("Left(%d) after Cancel: %d, %v", id, got, ok)
	}
	p.same(t, "Cancel")
}

func (p pair) tick(t *testing.T) []int {
	t.Helper()
	want := p.m.tick()
	got := p.x.Tick()
	if !slices.Equal(got, want) {
		t.Fatalf("Tick %d: %v, want %v", p.m.now, got, want)
	}
	for _, id := range got {
		if n, ok := p.x.Left(id); n != 0 || ok {
			t.Fatalf("Left(%d) when it rang: %d, %v", id, n, ok)
		}
	}
	p.same(t, "Tick")
	return got
}

// row is a pair in which those from 0 up to n - 1 are set, to ring at ticks each.
func row(t *testing.T, n, ticks int) pair {
	t.Helper()
	p := fresh()
	for id := range n {
		p.set(t, id, ticks)
	}
	return p
}

// put asks for what Set answers.
func put(t *testing.T, x *Timer, id, ticks int, want error) {
	t.Helper()
	if err := x.Set(id, ticks); !like(err, want) {
		t.Errorf("Set(%d, %d): %v, want %v", id, ticks, err, want)
	}
}

// left asks for what Left answers of one that is set.
func left(t *testing.T, x *Timer, id, want int) {
	t.Helper()
	if got, ok := x.Left(id); got != want || !ok {
		t.Errorf("Left(%d): %d, %v, want %d, true", id, got, ok, want)
	}
}

// unset asks for what Left answers of one that is not set.
func unset(t *testing.T, x *Timer, id int) {
	t.Helper()
	if got, ok := x.Left(id); got != 0 || ok {
		t.Errorf("Left(%d): %d, %v, want 0, false", id, got, ok)
	}
}

// cancelled asks for what Cancel answers.
func cancelled(t *testing.T, x *Timer, id int, want bool) {
	t.Helper()
	if got := x.Cancel(id); got != want {
		t.Errorf("Cancel(%d): %v, want %v", id, got, want)
	}
}

// rings asks for what Tick answers, and for the time.
func rings(t *testing.T, x *Timer, now int, want ...int) {
	t.Helper()
	if got := x.Tick(); !slices.Equal(got, want) {
		t.Errorf("Tick %d: %v, want %v", now, got, want)
	}
	if got := x.Now(); got != now {
		t.Errorf("Now: %d, want %d", got, now)
	}
}

// P14.1, P14.2: the chapter's example.
func TestExample(t *testing.T) {
	var x Timer
	put(t, &x, 7, 2, nil)
	put(t, &x, 8, 1, nil)
	put(t, &x, 9, 2, nil)
	put(t, &x, 7, 2, nil)
	rings(t, &x, 1, 8)
	rings(t, &x, 2, 9, 7)
	rings(t, &x, 3)
}

// P14.1, P14.2: in a zero timer it is 0 o'clock, and nothing is set; ticks pass without a ring.
func TestZero(t *testing.T) {
	var x Timer
	if got := x.Now(); got != 0 {
		t.Errorf("Now: %d", got)
	}
	for _, id := range far {
		unset(t, &x, id)
		cancelled(t, &x, id, false)
	}
	for k := range 5 {
		rings(t, &x, k+1)
		for _, id := range far {
			unset(t, &x, id)
		}
	}
}

// P14.1: Now is how many times Tick was called, whatever else was, with answers and errors.
func TestNow(t *testing.T) {
	p := fresh()
	now := func(want int) {
		t.Helper()
		if got := p.x.Now(); got != want {
			t.Errorf("Now: %d, want %d", got, want)
		}
	}
	for k := range 200 {
		now(k)
		p.set(t, k, 3)
		now(k)
		p.set(t, k, 0)
		now(k)
		p.x.Left(k)
		now(k)
		p.cancel(t, k-2)
		now(k)
		p.cancel(t, k-2)
		now(k)
		p.tick(t)
		now(k + 1)
	}
}

// P14.1, P14.2: an id rings at just that tick, whatever number it is, and at no later one.
func TestIDs(t *testing.T) {
	for _, id := range far {
		for _, ticks := range []int{1, 2, 3, 64, 65} {
			var x Timer
			put(t, &x, id, ticks, nil)
			for k := 1; k < ticks; k++ {
				left(t, &x, id, ticks-k+1)
				rings(t, &x, k)
			}
			left(t, &x, id, 1)
			rings(t, &x, ticks, id)
			unset(t, &x, id)
			for k := range 70 {
				rings(t, &x, ticks+k+1)
			}
		}
	}
	p := fresh()
	for k, id := range far {
		p.set(t, id, 1+k%3)
	}
	for range 4 {
		p.tick(t)
	}
}

// P14.1, P14.2: ticks may be 1, and 1000000: one set to that many rings after a million ticks, and not ahead of them.
func TestLongest(t *testing.T) {
	var x Timer
	put(t, &x, 1, 1, nil)
	put(t, &x, 2, 1000000, nil)
	put(t, &x, 3, 999999, nil)
	left(t, &x, 1, 1)
	left(t, &x, 2, 1000000)
	left(t, &x, 3, 999999)
	rings(t, &x, 1, 1)
	put(t, &x, 1, 1000000, nil)
	for k := 2; k < 999999; k++ {
		if got := x.Tick(); len(got) > 0 {
			t.Fatalf("Tick %d: %v", k, got)
		}
		if n, ok := x.Left(2); n != 1000000-k || !ok {
			t.Fatalf("Left at %d: %d, %v", k, n, ok)
		}
	}
	rings(t, &x, 999999, 3)
	rings(t, &x, 1000000, 2)
	left(t, &x, 1, 1)
	rings(t, &x, 1000001, 1)
	put(t, &x, 1, 1000000, nil)
	left(t, &x, 1, 1000000)
	rings(t, &x, 1000002)
	left(t, &x, 1, 999999)
}

// P14.1: ErrArgument of ticks that are not from 1 to 1000000, of an id that is set and of one that is not, where few are set and where 64 are: it is told ahead of ErrFull, and nothing changes, not even the order.
func TestWrongTicks(t *testing.T) {
	for _, n := range []int{0, 1, 2, 3, 63, 64} {
		p := row(t, n, 2)
		for _, ticks := range wrong {
			for _, id := range slices.Concat(far, []int{n - 1, n, n + 1}) {
				put(t, p.x, id, ticks, api.ErrArgument)
			}
			p.same(t, "Set to wrong ticks")
		}
		if got := p.tick(t); len(got) != 0 {
			t.Errorf("rang %v", got)
		}
		if got := p.tick(t); len(got) != n {
			t.Errorf("rang %v", got)
		}
		p.tick(t)
	}
}

// P14.1: 64 may be set, and no more: ErrFull, and nothing changes.
func TestFull(t *testing.T) {
	if api.MaxTable != 64 {
		t.Fatalf("MaxTable: %d", api.MaxTable)
	}
	p := row(t, 63, 3)
	put(t, p.x, 63, 3, nil)
	p.m.set(63, 3)
	p.same(t, "Set of the 64th")
	for _, ticks := range []int{1, 2, 3, 1000000} {
		for _, id := range far {
			if id < 0 || id > 63 {
				put(t, p.x, id, ticks, api.ErrFull)
				p.same(t, "Set of one more")
			}
		}
	}
	p.tick(t)
	put(t, p.x, 64, 1, api.ErrFull)
	p.tick(t)
	put(t, p.x, 64, 1, api.ErrFull)
	if got := p.tick(t); len(got) != 64 || got[0] != 0 || got[63] != 63 {
		t.Errorf("rang %v", got)
	}
	p.tick(t)
}

// P14.1: each of 64 that are set can be set anew: 63 others are set then; it rings behind them.
func TestFullAnew(t *testing.T) {
	for id := range 64 {
		for _, ticks := range []int{1, 4, 5, 6, 1000000} {
			p := row(t, 64, 5)
			put(t, p.x, id, ticks, nil)
			p.m.set(id, ticks)
			p.same(t, "Set anew")
			put(t, p.x, 64, ticks, api.ErrFull)
			p.same(t, "Set of one more")
			for range 6 {
				p.tick(t)
			}
		}
	}
}

// P14.1: an id that was cancelled, or rang, is not set: where 64 others are, it is ErrFull.
func TestFullOthers(t *testing.T) {
	p := row(t, 64, 5)
	p.cancel(t, 9)
	p.set(t, 100, 5)
	put(t, p.x, 9, 5, api.ErrFull)
	p.same(t, "Set of one that was cancelled")
	q := row(t, 63, 5)
	q.set(t, 9000, 1)
	q.tick(t)
	q.set(t, 100, 5)
	put(t, q.x, 9000, 1, api.ErrFull)
	q.same(t, "Set of one that rang")
	for range 6 {
		p.tick(t)
		q.tick(t)
	}
}

// P14.1, P14.2: where one of 64 is cancelled, or rings, one more may be set, and no second one.
func TestRoomAgain(t *testing.T) {
	for _, gone := range []func(pair){
		func(p pair) { p.cancel(t, 0) },
		func(p pair) { p.cancel(t, 33) },
		func(p pair) { p.cancel(t, 63) },
		func(p pair) { p.set(t, 20, 1); p.tick(t) },
	} {
		p := row(t, 64, 9)
		put(t, p.x, 100, 9, api.ErrFull)
		gone(p)
		p.set(t, 100, 9)
		put(t, p.x, 101, 9, api.ErrFull)
		p.same(t, "Set of one more")
		for range 9 {
			p.tick(t)
		}
	}
}

// P14.2: those that ring at one tick do so in the order in which they were set, not in that of their numbers, nor of how long they were to wait.
func TestOrder(t *testing.T) {
	ids := []int{7, 0, math.MaxInt, -3, 64, math.MinInt, 3}
	for first := range ids {
		order := slices.Concat(ids[first:], ids[:first])
		var x Timer
		for _, id := range order {
			put(t, &x, id, 1, nil)
		}
		rings(t, &x, 1, order...)
		rings(t, &x, 2)
	}
	var x Timer
	put(t, &x, 5, 3, nil)
	put(t, &x, 1, 3, nil)
	rings(t, &x, 1)
	put(t, &x, 9, 2, nil)
	put(t, &x, 2, 1, nil)
	rings(t, &x, 2, 2)
	put(t, &x, 0, 1, nil)
	rings(t, &x, 3, 5, 1, 9, 0)
}

// P14.1, P14.2: of several that ring at one tick the first, a middle and the last one, set anew to the same time, ring last.
func TestAnewSameTime(t *testing.T) {
	for _, c := range []struct {
		id   int
		want []int
	}{
		{4, []int{9, 1, 7, 4}}, {9, []int{4, 1, 7, 9}}, {1, []int{4, 9, 7, 1}}, {7, []int{4, 9, 1, 7}},
	} {
		var x Timer
		for _, id := range []int{4, 9, 1, 7} {
			put(t, &x, id, 3, nil)
		}
		put(t, &x, c.id, 3, nil)
		left(t, &x, c.id, 3)
		rings(t, &x, 1)
		rings(t, &x, 2)
		rings(t, &x, 3, c.want...)

		var y Timer
		for _, id := range []int{4, 9, 1, 7} {
			put(t, &y, id, 3, nil)
		}
		rings(t, &y, 1)
		put(t, &y, c.id, 2, nil)
		left(t, &y, c.id, 2)
		rings(t, &y, 2)
		rings(t, &y, 3, c.want...)
		rings(t, &y, 4)
	}
}

// P14.1, P14.2: one that is set anew rings at the new time alone, be it earlier or later than the one it was set to, and behind those set ahead of that.
func TestAnewOtherTime(t *testing.T) {
	for was := 1; was <= 6; was++ {
		for wait := range was {
			for ticks := 1; ticks <= 8; ticks++ {
				var x Timer
				put(t, &x, 3, was, nil)
				put(t, &x, 5, wait+ticks, nil)
				for k := range wait {
					rings(t, &x, k+1)
				}
				put(t, &x, 3, ticks, nil)
				left(t, &x, 3, ticks)
				for k := wait + 1; k < wait+ticks; k++ {
					rings(t, &x, k)
					left(t, &x, 3, wait+ticks-k)
				}
				rings(t, &x, wait+ticks, 5, 3)
				unset(t, &x, 3)
				for k := range 8 {
					rings(t, &x, wait+ticks+k+1)
				}
			}
		}
	}
}

// P14.1, P14.2: one that is set anew many times rings once, at the last time.
func TestAnewOften(t *testing.T) {
	var x Timer
	for ticks := 70; ticks > 1; ticks-- {
		put(t, &x, 6, ticks, nil)
	}
	left(t, &x, 6, 2)
	put(t, &x, 8, 70, nil)
	rings(t, &x, 1)
	rings(t, &x, 2, 6)
	for k := 3; k < 70; k++ {
		rings(t, &x, k)
	}
	rings(t, &x, 70, 8)
	for k := range 100 {
		put(t, &x, 6, 2, nil)
		rings(t, &x, 71+k)
		left(t, &x, 6, 1)
	}
	rings(t, &x, 171, 6)
}

// P14.1: Left tells one less at each tick, right from Set on, and nothing of one that rang, was cancelled, or was never set.
func TestLeft(t *testing.T) {
	var x Timer
	put(t, &x, 2, 4, nil)
	put(t, &x, 3, 6, nil)
	left(t, &x, 2, 4)
	left(t, &x, 2, 4)
	unset(t, &x, 4)
	for k := 1; k < 4; k++ {
		rings(t, &x, k)
		left(t, &x, 2, 4-k)
		left(t, &x, 3, 6-k)
		unset(t, &x, 0)
	}
	rings(t, &x, 4, 2)
	unset(t, &x, 2)
	left(t, &x, 3, 2)
	cancelled(t, &x, 3, true)
	unset(t, &x, 3)
	rings(t, &x, 5)
	unset(t, &x, 3)
	rings(t, &x, 6)
}

// P14.1: Cancel tells whether one was set: it was right after Set, and ticks later; it was not, if it rang, was cancelled, or was never set.
func TestCancel(t *testing.T) {
	var x Timer
	put(t, &x, 1, 2, nil)
	cancelled(t, &x, 1, true)
	cancelled(t, &x, 1, false)
	put(t, &x, 2, 2, nil)
	put(t, &x, 3, 1, nil)
	put(t, &x, 4, 2, nil)
	put(t, &x, 5, 2, nil)
	put(t, &x, 5, 2, nil)
	rings(t, &x, 1, 3)
	cancelled(t, &x, 3, false)
	cancelled(t, &x, 2, true)
	cancelled(t, &x, 2, false)
	cancelled(t, &x, 5, true)
	cancelled(t, &x, 5, false)
	cancelled(t, &x, 9, false)
	rings(t, &x, 2, 4)
	cancelled(t, &x, 4, false)
	for k := range 4 {
		rings(t, &x, 3+k)
	}
}

// P14.1, P14.2: the first, a middle and the last one of several are cancelled: the others ring in their order.
func TestCancelOrder(t *testing.T) {
	for _, c := range []struct {
		id   int
		rest []int
	}{
		{4, []int{9, 1, 7}}, {9, []int{4, 1, 7}}, {1, []int{4, 9, 7}}, {7, []int{4, 9, 1}},
	} {
		var x Timer
		for _, id := range []int{4, 9, 1, 7} {
			put(t, &x, id, 2, nil)
		}
		cancelled(t, &x, c.id, true)
		rings(t, &x, 1)
		rings(t, &x, 2, c.rest...)
		rings(t, &x, 3)
	}
}

// P14.1: each of 64 can be cancelled, alone, and all one behind the other from both ends.
func TestCancelMany(t *testing.T) {
	for id := range 64 {
		p := row(t, 64, 1)
		p.cancel(t, id)
		if got := p.tick(t); len(got) != 63 {
			t.Errorf("rang %v", got)
		}
	}
	p, q := row(t, 64, 1), row(t, 64, 1)
	for id := range 64 {
		p.cancel(t, id)
		q.cancel(t, 63-id)
	}
	rings(t, p.x, 1)
	rings(t, q.x, 1)
}

// P14.1: Cancel of one that is not set changes nothing.
func TestCancelOther(t *testing.T) {
	for _, n := range []int{0, 1, 2, 63, 64} {
		p := row(t, n, 2)
		for _, id := range slices.Concat(far, []int{n, n + 1}) {
			if id < 0 || id >= n {
				cancelled(t, p.x, id, false)
				p.same(t, "Cancel of one that is not set")
			}
		}
		p.tick(t)
		p.tick(t)
		p.tick(t)
	}
}

// P14.1, P14.2: one that was cancelled, and one that rang, can be set again; they ring behind those set ahead of that, at the new time alone.
func TestAgain(t *testing.T) {
	var x Timer
	put(t, &x, 1, 3, nil)
	put(t, &x, 2, 3, nil)
	cancelled(t, &x, 1, true)
	put(t, &x, 1, 3, nil)
	left(t, &x, 1, 3)
	rings(t, &x, 1)
	rings(t, &x, 2)
	rings(t, &x, 3, 2, 1)
	put(t, &x, 1, 2, nil)
	put(t, &x, 2, 2, nil)
	left(t, &x, 2, 2)
	cancelled(t, &x, 1, true)
	put(t, &x, 1, 4, nil)
	rings(t, &x, 4)
	rings(t, &x, 5, 2)
	put(t, &x, 2, 2, nil)
	rings(t, &x, 6)
	rings(t, &x, 7, 1, 2)
	for k := range 5 {
		put(t, &x, 1, 1, nil)
		rings(t, &x, 8+k, 1)
	}
	rings(t, &x, 13)
}

// P14.2: 64 that ring one tick behind the other, and 64 that are set anew whenever they ring.
func TestTurns(t *testing.T) {
	p := fresh()
	for id := range 64 {
		p.set(t, id, 64-id)
	}
	for k := range 64 {
		if got := p.tick(t); !slices.Equal(got, []int{63 - k}) {
			t.Errorf("rang %v", got)
		}
	}
	q := row(t, 64, 1)
	for range 5 {
		got := q.tick(t)
		if len(got) != 64 {
			t.Fatalf("rang %v", got)
		}
		slices.Reverse(got)
		for _, id := range got {
			q.set(t, id, 1)
		}
	}
}

// scribble writes into a list and into the room behind it.
func scribble(ids []int) {
	all := ids[:cap(ids)]
	for k := range all {
		all[k] = -77
	}
}

// P14.2, W6: who writes into what Tick answered does not change the timer, nor what it answers next.
func TestWrittenInto(t *testing.T) {
	for _, n := range []int{0, 1, 2, 7, 8, 9, 33, 64} {
		p := fresh()
		for id := range n {
			p.set(t, id, 1+id%4)
		}
		for range 6 {
			scribble(p.tick(t))
			p.same(t, "writing into Tick's")
			_ = append(p.tick(t), -77)
			p.same(t, "writing behind Tick's")
			for id := range n / 2 {
				p.set(t, id, 1+id%3)
			}
		}
	}
}

// P14.2, W6: what Tick answered stays as it was, whatever is called behind it.
func TestKeptAnswers(t *testing.T) {
	some := 0
	for seed := range uint64(40) {
		p := row(t, 64, 3)
		kept, was := [][]int{}, [][]int{}
		draw := strew(seed)
		for range 60 {
			p.step(t, draw)
			got := p.tick(t)
			kept, was = append(kept, got), append(was, slices.Clone(got))
			some += len(got)
		}
		for k := range kept {
			if !slices.Equal(kept[k], was[k]) {
				t.Errorf("Tick's became %v, it was %v", kept[k], was[k])
			}
		}
	}
	if some == 0 {
		t.Error("nothing rang")
	}
}

// W2: two timers do not hear of each other.
func TestTwo(t *testing.T) {
	a, b := fresh(), fresh()
	da, db := strew(1), strew(2)
	for range 400 {
		a.step(t, da)
		b.same(t, "a step of the other")
		b.step(t, db)
		a.same(t, "a step of the other")
	}
}

// W2: a copy of a timer is a timer of its own: what is called of one is not seen in the other.
func TestCopy(t *testing.T) {
	for _, step := range []func(*Timer){
		func(x *Timer) { x.Set(0, 4) },
		func(x *Timer) { x.Set(5, 1) },
		func(x *Timer) { x.Set(9, 2) },
		func(x *Timer) { x.Cancel(1) },
		func(x *Timer) { x.Tick() },
		func(x *Timer) { x.Set(3, 1); x.Tick() },
	} {
		p := row(t, 7, 3)
		y := *p.x
		step(&y)
		p.same(t, "a step of the copy")
		y = *p.x
		rings(t, &y, 1)
		step(p.x)
		rings(t, &y, 2)
		rings(t, &y, 3, 0, 1, 2, 3, 4, 5, 6)
	}
}

// strew is a source of numbers below n.
func strew(seed uint64) func(n int) int {
	state := seed + 14
	return func(n int) int {
		state = state*6364136223846793005 + 1442695040888963407
		return int(state>>33) % n
	}
}

// step takes one strewn step.
func (p pair) step(t *testing.T, draw func(int) int) {
	t.Helper()
	switch draw(9) {
	case 0, 1, 2:
		p.set(t, draw(80), 1+draw(6))
	case 3:
		p.set(t, far[draw(len(far))], 1+draw(30))
	case 4:
		p.set(t, draw(80), wrong[draw(len(wrong))])
	case 5:
		p.set(t, draw(80), 999990+draw(20))
	case 6:
		p.cancel(t, draw(80))
	case 7:
		p.cancel(t, far[draw(len(far))])
	default:
		p.tick(t)
	}
}

// P14.1, P14.2: long strewn runs, that fill the timer and have it ring.
func TestStrewn(t *testing.T) {
	full, together := 0, 0
	for seed := range uint64(30) {
		p := fresh()
		draw := strew(seed + 100)
		for range 400 {
			p.step(t, draw)
		}
		for range 400 {
			p.set(t, draw(200)-100, 1+draw(40))
			p.step(t, draw)
			if len(p.m.left) == 64 {
				full++
			}
		}
		for range 200 {
			p.step(t, draw)
			if len(p.tick(t)) > 1 {
				together++
			}
		}
	}
	if full == 0 || together == 0 {
		t.Errorf("full %d times, several at one tick %d times", full, together)
	}
}

// P14.1, P14.2: each run of five of ten steps, and ticks behind it.
func TestRuns(t *testing.T) {
	steps := []func(pair){
		func(p pair) { p.set(t, 0, 1) },
		func(p pair) { p.set(t, 0, 2) },
		func(p pair) { p.set(t, 1, 1) },
		func(p pair) { p.set(t, 1, 2) },
		func(p pair) { p.set(t, -1, 2) },
		func(p pair) { p.set(t, 0, 0) },
		func(p pair) { p.cancel(t, 0) },
		func(p pair) { p.cancel(t, 1) },
		func(p pair) { p.cancel(t, -1) },
		func(p pair) { p.tick(t) },
	}
	runs := 1
	for range 5 {
		runs *= len(steps)
	}
	for run := range runs {
		p := fresh()
		rest := run
		for range 5 {
			steps[rest%len(steps)](p)
			rest /= len(steps)
		}
		p.tick(t)
		p.tick(t)
		p.tick(t)
	}
}
