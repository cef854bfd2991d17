package thread

import (
	"errors"
	"math"
	"math/big"
	"slices"
	"testing"

	"sigillum/api"
)

// entry is a thread, and the stamp of when it went behind all that were ready.
type entry struct {
	Thread
	since int
}

// model has no queue: who is ready ahead of whom is worked out from the stamps.
type model struct {
	threads []entry
	stamp   int
}

func (m *model) next() int {
	m.stamp++
	return m.stamp
}

// find is a thread of the model that is in one of some states; nil, if there is none.
func (m *model) find(id int, states ...State) *entry {
	for k := range m.threads {
		if k == id && slices.Contains(states, m.threads[k].State) {
			return &m.threads[k]
		}
	}
	return nil
}

func (m *model) start(process int) (int, error) {
	switch {
	case process < 0:
		return 0, api.ErrArgument
	case len(m.threads) >= 64:
		return 0, api.ErrFull
	}
	m.threads = append(m.threads, entry{Thread{process, Ready, 0}, m.next()})
	return len(m.threads) - 1, nil
}

func (m *model) get(id int) Thread {
	if e := m.find(id, Ready, Blocked, Dead); e != nil {
		return e.Thread
	}
	return Thread{}
}

func (m *model) block(id, waits int) error {
	e := m.find(id, Ready)
	if e == nil {
		return api.ErrState
	}
	e.Thread = Thread{e.Process, Blocked, waits}
	return nil
}

func (m *model) wake(id int) error {
	e := m.find(id, Blocked)
	if e == nil {
		return api.ErrState
	}
	*e = entry{Thread{e.Process, Ready, 0}, m.next()}
	return nil
}

func (m *model) exit(id int) error {
	e := m.find(id, Ready, Blocked)
	if e == nil {
		return api.ErrState
	}
	e.Thread = Thread{e.Process, Dead, 0}
	return nil
}

func (m *model) kill(process int) []int {
	var ended []int
	for id := range m.threads {
		if e := m.find(id, Ready, Blocked); e != nil && e.Process == process {
			e.Thread = Thread{process, Dead, 0}
			ended = append(ended, id)
		}
	}
	return ended
}

func (m *model) ready() []int {
	var ids []int
	for id, e := range m.threads {
		if e.State == Ready {
			ids = append(ids, id)
		}
	}
	slices.SortFunc(ids, func(a, b int) int { return m.threads[a].since - m.threads[b].since })
	return ids
}

// pick works the place out with numbers as long as one likes: big's Mod is from 0 on.
func (m *model) pick(pick int) (int, error) {
	ids := m.ready()
	if len(ids) == 0 {
		return 0, api.ErrNotFound
	}
	at := new(big.Int).Mod(big.NewInt(int64(pick)), big.NewInt(int64(len(ids))))
	id := ids[at.Int64()]
	m.threads[id].since = m.next()
	return id, nil
}

// like tells whether an error is the one that is asked for, or none where none is.
func like(err, want error) bool {
	if want == nil {
		return err == nil
	}
	return errors.Is(err, want) && api.Number(err) == api.Number(want)
}

// far is numbers at all bounds, as ids, as processes, as what is waited for, and as picks.
var far = []int{math.MinInt, math.MinInt + 1, -1 << 62, math.MinInt32 - 1, math.MinInt32, -65, -64, -63, -2, -1, 0, 1, 2, 62, 63, 64, 65, 127, 128, math.MaxInt32, math.MaxInt32 + 1, 1 << 32, 1<<32 + 1, 1 << 62, math.MaxInt - 1, math.MaxInt}

// pair is a table, and the model of it.
type pair struct {
	x *Table
	m *model
}

func fresh() pair { return pair{&Table{}, &model{}} }

// same holds all that can be seen of the table against the model.
func (p pair) same(t *testing.T, after string) {
	t.Helper()
	if got, want := p.x.Ready(), p.m.ready(); !slices.Equal(got, want) {
		t.Fatalf("after %s: Ready %v, want %v", after, got, want)
	}
	for id := -2; id < 67; id++ {
		if got, want := p.x.Get(id), p.m.get(id); got != want {
			t.Fatalf("after %s: Get(%d) %v, want %v", after, id, got, want)
		}
	}
}

func (p pair) start(t *testing.T, process int) {
	t.Helper()
	want, wrong := p.m.start(process)
	if got, err := p.x.Start(process); got != want || !like(err, wrong) {
		t.Fatalf("Start(%d): %d, %v, want %d, %v", process, got, err, want, wrong)
	}
	p.same(t, "Start")
}

func (p pair) block(t *testing.T, id, waits int) {
	t.Helper()
	wrong := p.m.block(id, waits)
	if err := p.x.Block(id, waits); !like(err, wrong) {
		t.Fatalf("Block(%d, %d): %v, want %v", id, waits, err, wrong)
	}
	p.same(t, "Block")
}

func (p pair) wake(t *testing.T, id int) {
	t.Helper()
	wrong := p.m.wake(id)
	if err := p.x.Wake(id); !like(err, wrong) {
		t.Fatalf("Wake(%d): %v, want %v", id, err, wrong)
	}
	p.same(t, "Wake")
}

func (p pair) exit(t *testing.T, id int) {
	t.Helper()
	wrong := p.m.exit(id)
	if err := p.x.Exit(id); !like(err, wrong) {
		t.Fatalf("Exit(%d): %v, want %v", id, err, wrong)
	}
	p.same(t, "Exit")
}

func (p pair) kill(t *testing.T, process int) {
	t.Helper()
	want := p.m.kill(process)
	if got := p.x.Kill(process); !slices.Equal(got, want) {
		t.Fatalf("Kill(%d): %v, want %v", process, got, want)
	}
	p.same(t, "Kill")
}

func (p pair) pick(t *testing.T, pick int) {
	t.Helper()
	want, wrong := p.m.pick(pick)
	if got, err := p.x.Pick(pick); got != want || !like(err, wrong) {
		t.Fatalf("Pick(%d): %d, %v, want %d, %v", pick, got, err, want, wrong)
	}
	p.same(t, "Pick")
}

// row is a pair with so many threads, of processes 0, 1 and 2 by turns.
func row(t *testing.T, n int) pair {
	t.Helper()
	p := fresh()
	for k := range n {
		p.start(t, k%3)
	}
	return p
}

// ready asks for those that are ready, in order.
func ready(t *testing.T, x *Table, want ...int) {
	t.Helper()
	if got := x.Ready(); !slices.Equal(got, want) {
		t.Errorf("Ready: %v, want %v", got, want)
	}
}

// is asks for a thread.
func is(t *testing.T, x *Table, id int, want Thread) {
	t.Helper()
	if got := x.Get(id); got != want {
		t.Errorf("Get(%d): %v, want %v", id, got, want)
	}
}

// none asks that a step went well.
func none(t *testing.T, err error) {
	t.Helper()
	if err != nil {
		t.Error(err)
	}
}

// P12.1, P12.2, P12.3: the chapter's example.
func TestExample(t *testing.T) {
	var x Table
	for want := range 2 {
		if id, err := x.Start(5); id != want || err != nil {
			t.Errorf("Start: %d, %v", id, err)
		}
	}
	none(t, x.Block(0, 9))
	ready(t, &x, 1)
	if got := x.Kill(5); !slices.Equal(got, []int{0, 1}) {
		t.Errorf("Kill: %v", got)
	}
}

// The states are numbers in the order in which the chapter has them.
func TestStates(t *testing.T) {
	for want, s := range []State{None, Ready, Blocked, Dead} {
		if int(s) != want {
			t.Errorf("state %d is %d", want, s)
		}
	}
}

// P12.1, P12.2, P12.3: a zero table has no threads, whatever it is asked, and stays so.
func TestZero(t *testing.T) {
	var x Table
	for _, n := range far {
		is(t, &x, n, Thread{})
		for name, err := range map[string]error{"Block": x.Block(n, 3), "Wake": x.Wake(n), "Exit": x.Exit(n)} {
			if !like(err, api.ErrState) {
				t.Errorf("%s(%d): %v", name, n, err)
			}
		}
		if got := x.Kill(n); len(got) != 0 {
			t.Errorf("Kill(%d): %v", n, got)
		}
		if id, err := x.Pick(n); id != 0 || !like(err, api.ErrNotFound) {
			t.Errorf("Pick(%d): %d, %v", n, id, err)
		}
		ready(t, &x)
	}
	if id, err := x.Start(0); id != 0 || err != nil {
		t.Errorf("Start: %d, %v", id, err)
	}
	is(t, &x, 0, Thread{0, Ready, 0})
	ready(t, &x, 0)
}

// P12.1: numbers from 0 on, to each process from 0 to the greatest, Ready, waiting for nothing, behind all.
func TestStart(t *testing.T) {
	var x Table
	var ids []int
	for want, process := range []int{0, 5, 5, 1, 0, 64, 1 << 40, math.MaxInt - 1, math.MaxInt} {
		if id, err := x.Start(process); id != want || err != nil {
			t.Errorf("Start(%d): %d, %v", process, id, err)
		}
		ids = append(ids, want)
		is(t, &x, want, Thread{process, Ready, 0})
		is(t, &x, want+1, Thread{})
		ready(t, &x, ids...)
	}
}

// P12.1: 0 and ErrArgument of a process below 0; nothing changes, no number is used up, and the next thread has the next one.
func TestStartBelow(t *testing.T) {
	p := fresh()
	for k := range 3 {
		for _, process := range far {
			if process >= 0 {
				continue
			}
			if id, err := p.x.Start(process); id != 0 || !like(err, api.ErrArgument) {
				t.Errorf("Start(%d): %d, %v", process, id, err)
			}
			p.same(t, "Start below 0")
		}
		if id, err := p.x.Start(7); id != k || err != nil {
			t.Errorf("Start: %d, %v, want %d", id, err, k)
		}
		p.m.start(7)
	}
}

// P12.1: 64 may be started, and no more, also when threads have ended; a process below 0 is told first.
func TestStartFull(t *testing.T) {
	if api.MaxTable != 64 {
		t.Fatalf("MaxTable: %d", api.MaxTable)
	}
	p := row(t, 63)
	if id, err := p.x.Start(9); id != 63 || err != nil {
		t.Fatalf("Start of the 64th: %d, %v", id, err)
	}
	p.m.start(9)
	is(t, p.x, 63, Thread{9, Ready, 0})
	full := func() {
		t.Helper()
		for _, process := range far {
			want := error(api.ErrFull)
			if process < 0 {
				want = api.ErrArgument
			}
			if id, err := p.x.Start(process); id != 0 || !like(err, want) {
				t.Errorf("Start(%d) of one more: %d, %v", process, id, err)
			}
		}
		p.same(t, "Start of one more")
	}
	full()
	p.block(t, 5, 3)
	p.exit(t, 0)
	p.exit(t, 5)
	p.exit(t, 63)
	full()
	p.kill(t, 1)
	full()
	p.kill(t, 0)
	p.kill(t, 2)
	ready(t, p.x)
	full()
}

// P12.1: a number is not given again when its thread has ended: the next one is told.
func TestStartAfterEnd(t *testing.T) {
	p := row(t, 3)
	p.exit(t, 2)
	p.start(t, 4)
	is(t, p.x, 2, Thread{2, Dead, 0})
	is(t, p.x, 3, Thread{4, Ready, 0})
	p.kill(t, 4)
	p.exit(t, 0)
	p.start(t, 4)
	is(t, p.x, 4, Thread{4, Ready, 0})
	ready(t, p.x, 1, 4)
}

// P12.1: Get of an id that is not a thread's is zero, also one that would be a thread's if it were cut short.
func TestGet(t *testing.T) {
	for _, n := range []int{1, 2, 63, 64} {
		p := row(t, n)
		for _, id := range far {
			is(t, p.x, id, p.m.get(id))
		}
		for _, id := range []int{-1, n, 64, 256, 1 << 16, 1 << 32, math.MinInt, math.MaxInt} {
			is(t, p.x, id, Thread{})
		}
	}
}

// P12.2: ErrState of an id that is no thread's, and nothing changes; of one that is, its own answer.
func TestNoThread(t *testing.T) {
	for _, n := range []int{0, 1, 2, 63, 64} {
		p := row(t, n)
		for _, blocked := range []bool{false, true} {
			for id := 0; blocked && id < n; id++ {
				p.block(t, id, id-3)
			}
			for _, id := range append([]int{n, n + 1, 256, 1 << 16}, far...) {
				if id >= 0 && id < n {
					continue
				}
				for name, err := range map[string]error{"Block": p.x.Block(id, 8), "Wake": p.x.Wake(id), "Exit": p.x.Exit(id)} {
					if !like(err, api.ErrState) {
						t.Errorf("%s(%d) of %d threads: %v", name, id, n, err)
					}
				}
				p.same(t, "ErrState")
			}
		}
	}
}

// P12.2: Waits is 0 from Start on, what Block told until Wake, Exit or Kill, and 0 from then on; the process stays.
func TestWaits(t *testing.T) {
	for _, waits := range far {
		var x Table
		x.Start(6)
		is(t, &x, 0, Thread{6, Ready, 0})
		none(t, x.Block(0, waits))
		is(t, &x, 0, Thread{6, Blocked, waits})
		none(t, x.Wake(0))
		is(t, &x, 0, Thread{6, Ready, 0})
		if id, err := x.Pick(waits); id != 0 || err != nil {
			t.Errorf("Pick: %d, %v", id, err)
		}
		is(t, &x, 0, Thread{6, Ready, 0})
		none(t, x.Block(0, waits))
		is(t, &x, 0, Thread{6, Blocked, waits})
		none(t, x.Exit(0))
		is(t, &x, 0, Thread{6, Dead, 0})
		x.Start(7)
		none(t, x.Block(1, waits))
		is(t, &x, 1, Thread{7, Blocked, waits})
		if got := x.Kill(7); !slices.Equal(got, []int{1}) {
			t.Errorf("Kill: %v", got)
		}
		is(t, &x, 1, Thread{7, Dead, 0})
		x.Start(8)
		none(t, x.Exit(2))
		is(t, &x, 2, Thread{8, Dead, 0})
		x.Start(9)
		x.Kill(9)
		is(t, &x, 3, Thread{9, Dead, 0})
	}
}

// P12.2: from each state each call: what goes, and what is ErrState and changes nothing.
func TestStateSteps(t *testing.T) {
	for _, c := range []struct {
		state             State
		block, wake, exit error
	}{
		{Ready, nil, api.ErrState, nil},
		{Blocked, api.ErrState, nil, nil},
		{Dead, api.ErrState, api.ErrState, api.ErrState},
	} {
		build := func() *Table {
			x := &Table{}
			for range 3 {
				x.Start(4)
			}
			switch c.state {
			case Blocked:
				none(t, x.Block(1, 11))
			case Dead:
				none(t, x.Exit(1))
			}
			return x
		}
		for _, step := range []struct {
			name  string
			run   func(*Table) error
			want  error
			after Thread
			ready []int
		}{
			{"Block", func(x *Table) error { return x.Block(1, 22) }, c.block, Thread{4, Blocked, 22}, []int{0, 2}},
			{"Wake", func(x *Table) error { return x.Wake(1) }, c.wake, Thread{4, Ready, 0}, []int{0, 2, 1}},
			{"Exit", func(x *Table) error { return x.Exit(1) }, c.exit, Thread{4, Dead, 0}, []int{0, 2}},
		} {
			x := build()
			after, order := step.after, step.ready
			if step.want != nil {
				after, order = x.Get(1), x.Ready()
			}
			if err := step.run(x); !like(err, step.want) {
				t.Errorf("%s in state %d: %v, want %v", step.name, c.state, err, step.want)
			}
			is(t, x, 1, after)
			is(t, x, 0, Thread{4, Ready, 0})
			is(t, x, 2, Thread{4, Ready, 0})
			ready(t, x, order...)
		}
	}
}

// P12.2: Kill ends those of the process that are Ready or Blocked, tells them rising, not in the order of the queue, and leaves all others as they are.
func TestKill(t *testing.T) {
	var x Table
	for _, process := range []int{5, 6, 5, 5, 6, 5, 0} {
		x.Start(process)
	}
	none(t, x.Block(2, 9))
	none(t, x.Block(4, 8))
	none(t, x.Exit(3))
	for range 2 {
		x.Pick(0)
	}
	ready(t, &x, 5, 6, 0, 1)
	if got := x.Kill(7); len(got) != 0 {
		t.Errorf("Kill of a process without threads: %v", got)
	}
	if got := x.Kill(-5); len(got) != 0 {
		t.Errorf("Kill of a process below 0: %v", got)
	}
	ready(t, &x, 5, 6, 0, 1)
	if got := x.Kill(5); !slices.Equal(got, []int{0, 2, 5}) {
		t.Errorf("Kill: %v", got)
	}
	ready(t, &x, 6, 1)
	for id, want := range []Thread{{5, Dead, 0}, {6, Ready, 0}, {5, Dead, 0}, {5, Dead, 0}, {6, Blocked, 8}, {5, Dead, 0}, {0, Ready, 0}, {}} {
		is(t, &x, id, want)
	}
	if got := x.Kill(5); len(got) != 0 {
		t.Errorf("Kill a second time: %v", got)
	}
	ready(t, &x, 6, 1)
	x.Start(5)
	if got := x.Kill(5); !slices.Equal(got, []int{7}) {
		t.Errorf("Kill of a thread that was started behind a Kill: %v", got)
	}
}

// P12.2: process 0 is one like others: Kill of it ends its own threads, not those that were not started, and Start goes on at the next number.
func TestKillZero(t *testing.T) {
	p := fresh()
	p.kill(t, 0)
	p.start(t, 0)
	p.start(t, 1)
	p.start(t, 0)
	p.block(t, 2, 0)
	if got := p.x.Kill(0); !slices.Equal(got, []int{0, 2}) {
		t.Errorf("Kill: %v", got)
	}
	p.m.kill(0)
	p.same(t, "Kill")
	p.start(t, 0)
	ready(t, p.x, 1, 3)
	p.kill(t, 1)
	ready(t, p.x, 3)
}

// P12.2: Kill of processes at the bounds, of threads in all 64 places.
func TestKillFar(t *testing.T) {
	p := fresh()
	for k := range 64 {
		p.start(t, []int{0, math.MaxInt, 64}[k%3])
	}
	for _, process := range []int{-1, math.MinInt, 1, 63, 65, math.MaxInt - 1, math.MaxInt, 0, 64, 64} {
		p.kill(t, process)
	}
	ready(t, p.x)
	all := fresh()
	var want []int
	for k := range 64 {
		all.start(t, 3)
		want = append(want, k)
	}
	if got := all.x.Kill(3); !slices.Equal(got, want) {
		t.Errorf("Kill of all: %v", got)
	}
}

// P12.3: the order of those that are ready, after each call.
func TestOrder(t *testing.T) {
	var x Table
	for range 4 {
		x.Start(1)
	}
	ready(t, &x, 0, 1, 2, 3)
	none(t, x.Block(1, 5))
	ready(t, &x, 0, 2, 3)
	none(t, x.Block(0, 5))
	ready(t, &x, 2, 3)
	none(t, x.Wake(1))
	ready(t, &x, 2, 3, 1)
	none(t, x.Wake(0))
	ready(t, &x, 2, 3, 1, 0)
	if id, err := x.Pick(1); id != 3 || err != nil {
		t.Errorf("Pick: %d, %v", id, err)
	}
	ready(t, &x, 2, 1, 0, 3)
	x.Start(2)
	ready(t, &x, 2, 1, 0, 3, 4)
	none(t, x.Exit(0))
	ready(t, &x, 2, 1, 3, 4)
	if got := x.Kill(1); !slices.Equal(got, []int{1, 2, 3}) {
		t.Errorf("Kill: %v", got)
	}
	ready(t, &x, 4)
	x.Start(1)
	ready(t, &x, 4, 5)
}

// P12.3: the pick counts round, from below 0, too; the one that is picked goes behind all others, and no thread is another one by it.
func TestPick(t *testing.T) {
	for _, c := range []struct{ pick, at int }{
		{0, 0}, {1, 1}, {2, 2}, {3, 3}, {4, 0}, {5, 1}, {7, 3}, {8, 0},
		{-1, 3}, {-2, 2}, {-3, 1}, {-4, 0}, {-5, 3}, {-8, 0}, {-9, 3},
		{math.MaxInt, 3}, {math.MaxInt - 1, 2}, {math.MinInt, 0}, {math.MinInt + 1, 1}, {math.MinInt + 3, 3},
	} {
		p := row(t, 6)
		p.block(t, 0, 2)
		p.exit(t, 3)
		p.block(t, 1, 7)
		p.wake(t, 1)
		order := []int{2, 4, 5, 1}
		ready(t, p.x, order...)
		want := order[c.at]
		if id, err := p.x.Pick(c.pick); id != want || err != nil {
			t.Errorf("Pick(%d): %d, %v, want %d", c.pick, id, err, want)
		}
		p.m.pick(c.pick)
		p.same(t, "Pick")
		ready(t, p.x, slices.Concat(order[:c.at], order[c.at+1:], []int{want})...)
	}
}

// P12.3: Pick with as many ready as one likes, by picks around how many they are, and by those far off.
func TestPickMany(t *testing.T) {
	for _, n := range []int{1, 2, 3, 5, 62, 63, 64} {
		p := row(t, n)
		for _, about := range []int{-2 * n, -n, 0, n, 2 * n} {
			for by := -1; by <= 1; by++ {
				p.pick(t, about+by)
			}
		}
		for _, pick := range far {
			p.pick(t, pick)
		}
	}
}

// P12.3: where one alone is ready each pick is that one, and it stays ready.
func TestPickAlone(t *testing.T) {
	p := row(t, 3)
	p.block(t, 0, 1)
	p.exit(t, 1)
	for _, pick := range far {
		if id, err := p.x.Pick(pick); id != 2 || err != nil {
			t.Errorf("Pick(%d): %d, %v", pick, id, err)
		}
		ready(t, p.x, 2)
	}
}

// P12.3: 0 and ErrNotFound, where threads are Blocked and Dead alone; nothing changes.
func TestPickNone(t *testing.T) {
	p := row(t, 4)
	p.block(t, 3, 1)
	p.block(t, 0, 4)
	p.exit(t, 1)
	p.kill(t, 2)
	for _, pick := range far {
		if id, err := p.x.Pick(pick); id != 0 || !like(err, api.ErrNotFound) {
			t.Errorf("Pick(%d): %d, %v", pick, id, err)
		}
		p.same(t, "Pick")
	}
	p.wake(t, 3)
	p.pick(t, 5)
}

// P12.3: picks of 0, one behind the other, have each turn come.
func TestTurns(t *testing.T) {
	p := row(t, 64)
	for k := range 200 {
		if id, err := p.x.Pick(0); id != k%64 || err != nil {
			t.Fatalf("pick %d: %d, %v", k, id, err)
		}
	}
}

// scribble writes into a list and into the room behind it.
func scribble(ids []int) {
	all := ids[:cap(ids)]
	for k := range all {
		all[k] = -77
	}
}

// P12.2, P12.3, W6: who writes into what Ready and Kill answered does not change the table, nor what they answer next.
func TestWrittenInto(t *testing.T) {
	for _, n := range []int{1, 2, 7, 8, 9, 33, 64} {
		p := row(t, n)
		scribble(p.x.Ready())
		p.same(t, "writing into Ready")
		p.pick(t, 1)
		scribble(p.x.Ready())
		p.same(t, "writing into Ready")
		p.m.kill(1)
		scribble(p.x.Kill(1))
		p.same(t, "writing into Kill")
		p.pick(t, -1)
		p.start(t, 1)
		p.kill(t, 0)
		p.kill(t, 1)
		p.kill(t, 2)
	}
}

// P12.2, P12.3, W6: what Ready and Kill answered stays as it was, whatever is called behind it.
func TestKeptAnswers(t *testing.T) {
	for seed := range uint64(40) {
		p := row(t, 1+int(seed))
		killed := p.x.Kill(2)
		p.m.kill(2)
		wasKilled := slices.Clone(killed)
		kept, was := [][]int{}, [][]int{}
		draw := strew(seed)
		for range 60 {
			p.step(t, draw)
			got := p.x.Ready()
			kept, was = append(kept, got), append(was, slices.Clone(got))
		}
		if !slices.Equal(killed, wasKilled) {
			t.Errorf("Kill's became %v, it was %v", killed, wasKilled)
		}
		for k := range kept {
			if !slices.Equal(kept[k], was[k]) {
				t.Errorf("Ready's became %v, it was %v", kept[k], was[k])
			}
		}
	}
}

// W2: two tables do not hear of each other.
func TestTwo(t *testing.T) {
	a, b := fresh(), fresh()
	da, db := strew(1), strew(2)
	for range 400 {
		a.step(t, da)
		b.same(t, "a step of the other")
		b.step(t, db)
		a.same(t, "a step of the other")
	}
}

// strew is a source of numbers below n.
func strew(seed uint64) func(n int) int {
	state := seed + 12
	return func(n int) int {
		state = state*6364136223846793005 + 1442695040888963407
		return int(state>>33) % n
	}
}

// step takes one strewn step.
func (p pair) step(t *testing.T, draw func(int) int) {
	t.Helper()
	switch draw(12) {
	case 0, 1:
		p.start(t, draw(8)-1)
	case 2, 3, 4:
		p.block(t, draw(70)-2, draw(100)-50)
	case 5, 6, 7:
		p.wake(t, draw(70)-2)
	case 8:
		p.exit(t, draw(70)-2)
	case 9:
		if draw(6) == 0 {
			p.kill(t, draw(9)-1)
		}
	default:
		p.pick(t, draw(1<<30)-1<<29)
	}
}

// P12.1, P12.2, P12.3: long strewn runs, that fill the table and end all threads.
func TestStrewn(t *testing.T) {
	full, over := 0, 0
	for seed := range uint64(30) {
		p := fresh()
		draw := strew(seed + 100)
		for range 900 {
			p.step(t, draw)
		}
		if len(p.m.threads) == 64 {
			full++
		}
		for range 600 {
			p.exit(t, draw(66)-1)
			p.step(t, draw)
		}
		if len(p.m.ready()) == 0 {
			over++
		}
	}
	if full == 0 || over == 0 {
		t.Errorf("full %d times, over %d times", full, over)
	}
}

// P12.1, P12.2, P12.3: each run of five of eleven steps.
func TestRuns(t *testing.T) {
	steps := []func(pair){
		func(p pair) { p.start(t, 0) },
		func(p pair) { p.start(t, 1) },
		func(p pair) { p.block(t, 0, 4) },
		func(p pair) { p.block(t, 1, -4) },
		func(p pair) { p.wake(t, 0) },
		func(p pair) { p.wake(t, 1) },
		func(p pair) { p.exit(t, 0) },
		func(p pair) { p.kill(t, 0) },
		func(p pair) { p.kill(t, 1) },
		func(p pair) { p.pick(t, 0) },
		func(p pair) { p.pick(t, -1) },
	}
	runs := 1
	for range 5 {
		runs *= len(steps)
	}
	for run := range runs {
		p := fresh()
		p.start(t, 1)
		for range 5 {
			steps[run%len(steps)](p)
			run /= len(steps)
		}
	}
}
