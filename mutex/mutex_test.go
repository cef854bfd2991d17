package mutex

import (
	"errors"
	"math"
	"slices"
	"testing"

	"sigillum/api"
)

// model has no line: who has waited longest is worked out from the stamps of when they came.
type model struct {
	held   bool
	holder int
	since  map[int]int // of those that wait alone
	stamp  int
}

func (m *model) hold() int {
	if !m.held {
		return -1
	}
	return m.holder
}

func (m *model) lock(id int) (bool, error) {
	_, waits := m.since[id]
	switch {
	case id < 0:
		return false, api.ErrArgument
	case !m.held:
		m.held, m.holder = true, id
		return true, nil
	case m.holder == id || waits:
		return false, api.ErrState
	case len(m.since) >= 64:
		return false, api.ErrFull
	}
	m.stamp++
	m.since[id] = m.stamp
	return false, nil
}

func (m *model) unlock(id int) (int, error) {
	if !m.held || m.holder != id {
		return -1, api.ErrState
	}
	m.held = len(m.since) > 0
	for other, stamp := range m.since {
		if stamp == slices.Min(m.stamps()) {
			m.holder = other
		}
	}
	delete(m.since, m.hold())
	return m.hold(), nil
}

func (m *model) leave(id int) int {
	if m.held && m.holder == id {
		next, _ := m.unlock(id)
		return next
	}
	delete(m.since, id)
	return -1
}

func (m *model) stamps() []int {
	var all []int
	for _, stamp := range m.since {
		all = append(all, stamp)
	}
	return all
}

func (m *model) waiting() []int {
	var ids []int
	for id := range m.since {
		ids = append(ids, id)
	}
	slices.SortFunc(ids, func(a, b int) int { return m.since[a] - m.since[b] })
	return ids
}

// like tells whether an error is the one that is asked for, or none where none is.
func like(err, want error) bool {
	if want == nil {
		return err == nil
	}
	return errors.Is(err, want) && api.Number(err) == api.Number(want)
}

// far is ids at all bounds.
var far = []int{math.MinInt, math.MinInt + 1, -1 << 62, math.MinInt32 - 1, math.MinInt32, -65, -64, -63, -2, -1, 0, 1, 2, 62, 63, 64, 65, 127, 128, math.MaxInt32, math.MaxInt32 + 1, 1 << 32, 1<<32 + 1, 1 << 62, math.MaxInt - 1, math.MaxInt}

// pair is a lock, and the model of it.
type pair struct {
	x *Mutex
	m *model
}

func fresh() pair { return pair{&Mutex{}, &model{since: map[int]int{}}} }

// same holds all that can be seen of the lock against the model.
func (p pair) same(t *testing.T, after string) {
	t.Helper()
	if got, want := p.x.Holder(), p.m.hold(); got != want {
		t.Fatalf("after %s: Holder %d, want %d", after, got, want)
	}
	if got, want := p.x.Waiting(), p.m.waiting(); !slices.Equal(got, want) {
		t.Fatalf("after %s: Waiting %v, want %v", after, got, want)
	}
}

func (p pair) lock(t *testing.T, id int) {
	t.Helper()
	want, wrong := p.m.lock(id)
	if got, err := p.x.Lock(id); got != want || !like(err, wrong) {
		t.Fatalf("Lock(%d): %v, %v, want %v, %v", id, got, err, want, wrong)
	}
	p.same(t, "Lock")
}

func (p pair) unlock(t *testing.T, id int) {
	t.Helper()
	want, wrong := p.m.unlock(id)
	if got, err := p.x.Unlock(id); got != want || !like(err, wrong) {
		t.Fatalf("Unlock(%d): %d, %v, want %d, %v", id, got, err, want, wrong)
	}
	p.same(t, "Unlock")
}

func (p pair) leave(t *testing.T, id int) {
	t.Helper()
	want := p.m.leave(id)
	if got := p.x.Leave(id); got != want {
		t.Fatalf("Leave(%d): %d, want %d", id, got, want)
	}
	p.same(t, "Leave")
}

// row is a pair that 0 holds, if n is above 0, and that those from 1 up to n - 1 wait for.
func row(t *testing.T, n int) pair {
	t.Helper()
	p := fresh()
	for id := range n {
		p.lock(t, id)
	}
	return p
}

// held asks who holds a lock, and who waits for it.
func held(t *testing.T, m *Mutex, holder int, waiting ...int) {
	t.Helper()
	if got := m.Holder(); got != holder {
		t.Errorf("Holder: %d, want %d", got, holder)
	}
	if got := m.Waiting(); !slices.Equal(got, waiting) {
		t.Errorf("Waiting: %v, want %v", got, waiting)
	}
}

// locked asks for what Lock answers.
func locked(t *testing.T, m *Mutex, id int, want bool, wrong error) {
	t.Helper()
	if got, err := m.Lock(id); got != want || !like(err, wrong) {
		t.Errorf("Lock(%d): %v, %v, want %v, %v", id, got, err, want, wrong)
	}
}

// unlocked asks for what Unlock answers.
func unlocked(t *testing.T, m *Mutex, id, want int, wrong error) {
	t.Helper()
	if got, err := m.Unlock(id); got != want || !like(err, wrong) {
		t.Errorf("Unlock(%d): %d, %v, want %d, %v", id, got, err, want, wrong)
	}
}

// left asks for what Leave answers.
func left(t *testing.T, m *Mutex, id, want int) {
	t.Helper()
	if got := m.Leave(id); got != want {
		t.Errorf("Leave(%d): %d, want %d", id, got, want)
	}
}

// P13.1, P13.2: the chapter's example.
func TestExample(t *testing.T) {
	var m Mutex
	locked(t, &m, 1, true, nil)
	locked(t, &m, 2, false, nil)
	locked(t, &m, 3, false, nil)
	unlocked(t, &m, 1, 2, nil)
	left(t, &m, 2, 3)
	unlocked(t, &m, 3, None, nil)
	held(t, &m, None)
}

// P13.1: None is the number that the chapter says.
func TestNone(t *testing.T) {
	if None != -1 {
		t.Errorf("None: %d", None)
	}
}

// P13.1, P13.2: a zero lock is free, whoever unlocks it or leaves, and stays so.
func TestZero(t *testing.T) {
	var m Mutex
	held(t, &m, -1)
	for _, id := range far {
		unlocked(t, &m, id, -1, api.ErrState)
		left(t, &m, id, -1)
		held(t, &m, -1)
	}
	locked(t, &m, 9, true, nil)
	held(t, &m, 9)
}

// P13.1: each id from 0 to the greatest can hold, and wait; those that wait do so in the order in which they came, not in that of their numbers.
func TestLock(t *testing.T) {
	ids := []int{7, 0, math.MaxInt, 64, 1 << 32, 3, math.MaxInt - 1, 65, 1, math.MaxInt32}
	for first := range ids {
		order := slices.Concat(ids[first:], ids[:first])
		var m Mutex
		for k, id := range order {
			locked(t, &m, id, k == 0, nil)
			held(t, &m, order[0], order[1:k+1]...)
		}
	}
}

// P13.1: false and ErrArgument of an id below 0, of a free lock, of one that is held, and of one that 64 wait for: it is told first, and nothing changes.
func TestLockBelow(t *testing.T) {
	for _, n := range []int{0, 1, 2, 3, 64, 65} {
		p := row(t, n)
		for _, id := range far {
			if id < 0 {
				locked(t, p.x, id, false, api.ErrArgument)
				p.same(t, "Lock below 0")
			}
		}
	}
}

// P13.1: false and ErrState of one that holds, and of each that waits; nothing changes, not even who waits ahead of whom.
func TestLockTwice(t *testing.T) {
	for _, n := range []int{1, 2, 3, 63, 64, 65} {
		p := row(t, n)
		for id := range n {
			locked(t, p.x, id, false, api.ErrState)
			p.same(t, "Lock a second time")
		}
	}
}

// P13.1: 64 may wait beside the one that holds, and no more; what else is wrong is told ahead of ErrFull.
func TestLockFull(t *testing.T) {
	if api.MaxTable != 64 {
		t.Fatalf("MaxTable: %d", api.MaxTable)
	}
	p := row(t, 64)
	if got := len(p.x.Waiting()); got != 63 {
		t.Fatalf("%d wait", got)
	}
	locked(t, p.x, 64, false, nil)
	p.m.lock(64)
	p.same(t, "Lock of the 64th that waits")
	for _, id := range far {
		want := error(api.ErrFull)
		switch {
		case id < 0:
			want = api.ErrArgument
		case id <= 64:
			want = api.ErrState
		}
		locked(t, p.x, id, false, want)
		p.same(t, "Lock of one more")
	}
}

// P13.1, P13.2: where one of 64 has gone, by Unlock or Leave, one more may wait, and no second one.
func TestRoomAgain(t *testing.T) {
	for _, gone := range []func(pair){
		func(p pair) { p.unlock(t, 0) },
		func(p pair) { p.leave(t, 0) },
		func(p pair) { p.leave(t, 1) },
		func(p pair) { p.leave(t, 33) },
		func(p pair) { p.leave(t, 64) },
	} {
		p := row(t, 65)
		locked(t, p.x, 100, false, api.ErrFull)
		gone(p)
		p.lock(t, 100)
		if got := p.x.Waiting(); len(got) != 64 || got[63] != 100 {
			t.Errorf("Waiting: %v", got)
		}
		locked(t, p.x, 101, false, api.ErrFull)
		p.same(t, "Lock of one more")
	}
}

// P13.2: Unlock gives the lock to the one that has waited longest: with none that waits, with one, and with several.
func TestUnlock(t *testing.T) {
	var m Mutex
	locked(t, &m, 5, true, nil)
	unlocked(t, &m, 5, -1, nil)
	held(t, &m, -1)
	locked(t, &m, 5, true, nil)
	locked(t, &m, 9, false, nil)
	unlocked(t, &m, 5, 9, nil)
	held(t, &m, 9)
	for _, id := range []int{8, 2, 6, 3} {
		locked(t, &m, id, false, nil)
	}
	unlocked(t, &m, 9, 8, nil)
	held(t, &m, 8, 2, 6, 3)
	unlocked(t, &m, 8, 2, nil)
	held(t, &m, 2, 6, 3)
	unlocked(t, &m, 2, 6, nil)
	unlocked(t, &m, 6, 3, nil)
	held(t, &m, 3)
	unlocked(t, &m, 3, -1, nil)
	held(t, &m, -1)
}

// P13.2: None and ErrState of each that waits, of one that is not there, of one below 0, and of one that has unlocked; nothing changes.
func TestUnlockOther(t *testing.T) {
	for _, n := range []int{0, 1, 2, 3, 64, 65} {
		p := row(t, n)
		for _, id := range slices.Concat(far, []int{n - 1, n, n + 1}) {
			if id != 0 || n == 0 {
				unlocked(t, p.x, id, -1, api.ErrState)
				p.same(t, "Unlock by another one")
			}
		}
		if n > 0 {
			p.unlock(t, 0)
			unlocked(t, p.x, 0, -1, api.ErrState)
			p.same(t, "Unlock a second time")
		}
	}
}

// P13.2: Leave of the one that holds unlocks: None, if none waits, else the one that has waited longest.
func TestLeaveHolder(t *testing.T) {
	var m Mutex
	locked(t, &m, 4, true, nil)
	left(t, &m, 4, -1)
	held(t, &m, -1)
	for k, id := range []int{4, 9, 1, 7} {
		locked(t, &m, id, k == 0, nil)
	}
	left(t, &m, 4, 9)
	held(t, &m, 9, 1, 7)
	left(t, &m, 9, 1)
	held(t, &m, 1, 7)
	left(t, &m, 1, 7)
	held(t, &m, 7)
	left(t, &m, 7, -1)
	held(t, &m, -1)
}

// P13.2: Leave of the first, a middle and the last one that waits: None, the others stay in order, and the one that holds does so still.
func TestLeaveWaiting(t *testing.T) {
	for _, c := range []struct {
		id   int
		rest []int
	}{
		{9, []int{1, 7, 0}}, {1, []int{9, 7, 0}}, {7, []int{9, 1, 0}}, {0, []int{9, 1, 7}},
	} {
		var m Mutex
		for k, id := range []int{4, 9, 1, 7, 0} {
			locked(t, &m, id, k == 0, nil)
		}
		left(t, &m, c.id, -1)
		held(t, &m, 4, c.rest...)
		left(t, &m, c.id, -1)
		held(t, &m, 4, c.rest...)
		unlocked(t, &m, c.id, -1, api.ErrState)
		unlocked(t, &m, 4, c.rest[0], nil)
		held(t, &m, c.rest[0], c.rest[1:]...)
	}
}

// P13.2: Leave of one that neither holds nor waits, and of one below 0: None, and nothing changes.
func TestLeaveOther(t *testing.T) {
	for _, n := range []int{0, 1, 2, 3, 64, 65} {
		p := row(t, n)
		for _, id := range slices.Concat(far, []int{n, n + 1}) {
			if id < 0 || id >= n {
				left(t, p.x, id, -1)
				p.same(t, "Leave of one that is not there")
			}
		}
	}
}

// P13.2: each of 64 that wait can leave, alone, and all one behind the other from both ends.
func TestLeaveMany(t *testing.T) {
	for id := range 65 {
		p := row(t, 65)
		p.leave(t, id)
		p.unlock(t, p.x.Holder())
	}
	p, q := row(t, 65), row(t, 65)
	for id := range 65 {
		p.leave(t, id)
		q.leave(t, 64-id)
	}
	held(t, p.x, -1)
	held(t, q.x, -1)
}

// P13.1, P13.2: the id 0 holds and waits as others do, and is not who holds a free lock.
func TestIDZero(t *testing.T) {
	var m Mutex
	unlocked(t, &m, 0, -1, api.ErrState)
	locked(t, &m, 0, true, nil)
	held(t, &m, 0)
	locked(t, &m, 0, false, api.ErrState)
	locked(t, &m, 3, false, nil)
	unlocked(t, &m, 0, 3, nil)
	locked(t, &m, 0, false, nil)
	held(t, &m, 3, 0)
	locked(t, &m, 0, false, api.ErrState)
	unlocked(t, &m, 0, -1, api.ErrState)
	unlocked(t, &m, 3, 0, nil)
	held(t, &m, 0)
	locked(t, &m, 4, false, nil)
	left(t, &m, 0, 4)
	locked(t, &m, 0, false, nil)
	left(t, &m, 0, -1)
	held(t, &m, 4)
}

// P13.1, P13.2: one who has unlocked or left can lock again, and comes behind all others.
func TestAgain(t *testing.T) {
	for _, c := range []struct {
		name   string
		gone   func(*Mutex)
		id     int
		holder int
		rest   []int
	}{
		{"Unlock", func(m *Mutex) { m.Unlock(5) }, 5, 3, []int{8, 1, 5}},
		{"Leave of the one that holds", func(m *Mutex) { m.Leave(5) }, 5, 3, []int{8, 1, 5}},
		{"Leave of the first that waits", func(m *Mutex) { m.Leave(3) }, 3, 5, []int{8, 1, 3}},
		{"Leave of a middle one", func(m *Mutex) { m.Leave(8) }, 8, 5, []int{3, 1, 8}},
		{"Leave of the last one", func(m *Mutex) { m.Leave(1) }, 1, 5, []int{3, 8, 1}},
	} {
		t.Run(c.name, func(t *testing.T) {
			var m Mutex
			for k, id := range []int{5, 3, 8, 1} {
				locked(t, &m, id, k == 0, nil)
			}
			c.gone(&m)
			locked(t, &m, c.id, false, nil)
			held(t, &m, c.holder, c.rest...)
			locked(t, &m, c.id, false, api.ErrState)
		})
	}
	var m Mutex
	for range 3 {
		locked(t, &m, 5, true, nil)
		unlocked(t, &m, 5, -1, nil)
		locked(t, &m, 5, true, nil)
		left(t, &m, 5, -1)
	}
	held(t, &m, -1)
}

// P13.2: 65 that lock again when they have unlocked come by turns.
func TestTurns(t *testing.T) {
	p := row(t, 65)
	for k := range 200 {
		unlocked(t, p.x, k%65, (k+1)%65, nil)
		locked(t, p.x, k%65, false, nil)
	}
}

// scribble writes into a list and into the room behind it.
func scribble(ids []int) {
	all := ids[:cap(ids)]
	for k := range all {
		all[k] = -77
	}
}

// P13.1, W6: who writes into what Waiting answered does not change the lock, nor what it answers next.
func TestWrittenInto(t *testing.T) {
	for _, n := range []int{0, 1, 2, 7, 8, 9, 33, 64, 65} {
		p := row(t, n)
		for _, step := range []func(){
			func() {},
			func() { p.leave(t, 3) },
			func() { p.unlock(t, 0) },
			func() { p.lock(t, 90) },
			func() { p.leave(t, 1) },
			func() { p.lock(t, 91) },
		} {
			step()
			scribble(p.x.Waiting())
			p.same(t, "writing into Waiting")
			_ = append(p.x.Waiting(), -77)
			p.same(t, "writing behind Waiting")
		}
	}
}

// P13.1, W6: what Waiting answered stays as it was, whatever is called behind it.
func TestKeptAnswers(t *testing.T) {
	for seed := range uint64(40) {
		p := row(t, int(seed)*2)
		kept, was := [][]int{}, [][]int{}
		draw := strew(seed)
		for range 60 {
			p.step(t, draw)
			got := p.x.Waiting()
			kept, was = append(kept, got), append(was, slices.Clone(got))
		}
		for k := range kept {
			if !slices.Equal(kept[k], was[k]) {
				t.Errorf("Waiting's became %v, it was %v", kept[k], was[k])
			}
		}
	}
}

// W2: two locks do not hear of each other.
func TestTwo(t *testing.T) {
	a, b := fresh(), fresh()
	da, db := strew(1), strew(2)
	for range 400 {
		a.step(t, da)
		b.same(t, "a step of the other")
		b.step(t, db)
		a.same(t, "a step of the other")
	}
}

// strew is a source of numbers below n.
func strew(seed uint64) func(n int) int {
	state := seed + 13
	return func(n int) int {
		state = state*6364136223846793005 + 1442695040888963407
		return int(state>>33) % n
	}
}

// step takes one strewn step.
func (p pair) step(t *testing.T, draw func(int) int) {
	t.Helper()
	switch draw(8) {
	case 0, 1, 2:
		p.lock(t, draw(82)-1)
	case 3:
		p.lock(t, far[draw(len(far))])
	case 4:
		p.unlock(t, p.m.hold())
	case 5:
		p.unlock(t, draw(82)-1)
	case 6:
		p.leave(t, draw(82)-1)
	default:
		p.leave(t, far[draw(len(far))])
	}
}

// P13.1, P13.2: long strewn runs, that fill the lock and free it.
func TestStrewn(t *testing.T) {
	full, free := 0, 0
	for seed := range uint64(30) {
		p := fresh()
		draw := strew(seed + 100)
		for range 500 {
			p.step(t, draw)
		}
		for range 400 {
			p.lock(t, draw(200)-1)
			p.step(t, draw)
			if len(p.m.since) == 64 {
				full++
			}
		}
		for range 400 {
			p.unlock(t, p.m.hold())
			p.step(t, draw)
			if !p.m.held {
				free++
			}
		}
	}
	if full == 0 || free == 0 {
		t.Errorf("full %d times, free %d times", full, free)
	}
}

// P13.1, P13.2: each run of five of eleven steps.
func TestRuns(t *testing.T) {
	steps := []func(pair){
		func(p pair) { p.lock(t, -1) },
		func(p pair) { p.lock(t, 0) },
		func(p pair) { p.lock(t, 1) },
		func(p pair) { p.lock(t, 2) },
		func(p pair) { p.unlock(t, -1) },
		func(p pair) { p.unlock(t, 0) },
		func(p pair) { p.unlock(t, 1) },
		func(p pair) { p.leave(t, -1) },
		func(p pair) { p.leave(t, 0) },
		func(p pair) { p.leave(t, 1) },
		func(p pair) { p.leave(t, 2) },
	}
	runs := 1
	for range 5 {
		runs *= len(steps)
	}
	for run := range runs {
		for _, n := range []int{0, 3} {
			p := row(t, n)
			rest := run
			for range 5 {
				steps[rest%len(steps)](p)
				rest /= len(steps)
			}
		}
	}
}
