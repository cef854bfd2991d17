package runq

import (
	"errors"
	"math"
	"math/big"
	"slices"
	"testing"

	"sigillum/api"
)

// model is the same numbers, each linked to the one behind it.
type model struct {
	id   int
	next *model
}

// of is numbers as a model; nil, if there are none.
func of(ids []int) *model {
	if len(ids) == 0 {
		return nil
	}
	return &model{ids[0], of(ids[1:])}
}

func (m *model) list() []int {
	if m == nil {
		return nil
	}
	return append([]int{m.id}, m.next.list()...)
}

func (m *model) long() int {
	if m == nil {
		return 0
	}
	return 1 + m.next.long()
}

func (m *model) has(id int) bool { return m != nil && (m.id == id || m.next.has(id)) }

// behind is the model with one more behind all.
func (m *model) behind(id int) *model {
	if m == nil {
		return &model{id, nil}
	}
	return &model{m.id, m.next.behind(id)}
}

// without is the model without all that are one.
func (m *model) without(id int) *model {
	if m == nil {
		return nil
	}
	if m.id == id {
		return m.next.without(id)
	}
	return &model{m.id, m.next.without(id)}
}

// cut is the one at a place, and the model without it.
func (m *model) cut(at int) (int, *model) {
	if at == 0 {
		return m.id, m.next
	}
	id, rest := m.next.cut(at - 1)
	return id, &model{m.id, rest}
}

func (m *model) push(id int) (*model, error) {
	switch {
	case m.has(id):
		return nil, api.ErrExists
	case m.long() >= 64:
		return nil, api.ErrFull
	}
	return m.behind(id), nil
}

// take works the place out with numbers as long as one likes: big's Mod is from 0 on.
func (m *model) take(pick int) (int, *model, error) {
	if m == nil {
		return 0, nil, api.ErrNotFound
	}
	at := new(big.Int).Mod(big.NewInt(int64(pick)), big.NewInt(int64(m.long())))
	id, rest := m.cut(int(at.Int64()))
	return id, rest, nil
}

// like tells whether an error is the one that is asked for, or none where none is.
func like(err, want error) bool {
	if want == nil {
		return err == nil
	}
	return errors.Is(err, want) && api.Number(err) == api.Number(want)
}

// mark is what stands in the room behind a queue that is handed in.
const mark = 0x5ea1

// roomy is a queue with marked room behind it, into which an append would write.
func roomy(ids []int) Queue {
	all := append(slices.Clone(ids), mark, mark, mark)
	return Queue(all[:len(ids)])
}

// still tells whether a roomy queue and the room behind it are as they were.
func still(q Queue, ids []int) bool {
	return slices.Equal(q, Queue(ids)) && slices.Equal(q[len(q):len(q)+3], Queue{mark, mark, mark})
}

// apart tells whether nothing that is written into an answer, or into the room behind it, comes into the queue that was given, nor the other way round.
func apart(q, out Queue) bool {
	ids, got := slices.Clone(q), slices.Clone(out)
	all := out[:cap(out)]
	old := slices.Clone(all)
	for i := range all {
		all[i]++
	}
	ok := still(q, ids)
	copy(all, old)
	for i := range q {
		q[i]++
	}
	ok = ok && slices.Equal(out, got)
	copy(q, ids)
	return ok
}

// push holds Push against the model, and answers the new queue; the old one beside an error.
func push(t *testing.T, ids []int, id int) Queue {
	t.Helper()
	q := roomy(ids)
	want, wrong := of(ids).push(id)
	got, err := Push(q, id)
	if !slices.Equal(got, Queue(want.list())) || !like(err, wrong) {
		t.Fatalf("Push(%v, %d): %v, %v, want %v, %v", ids, id, got, err, want.list(), wrong)
	}
	if !still(q, ids) || !apart(q, got) {
		t.Fatalf("Push(%v, %d) changed it, or shares it: %v", ids, id, q)
	}
	if err != nil {
		return q
	}
	return got
}

// take holds Take against the model, and answers the new queue; the old one beside an error.
func take(t *testing.T, ids []int, pick int) Queue {
	t.Helper()
	q := roomy(ids)
	want, rest, wrong := of(ids).take(pick)
	got, left, err := Take(q, pick)
	if got != want || !slices.Equal(left, Queue(rest.list())) || !like(err, wrong) {
		t.Fatalf("Take(%v, %d): %d, %v, %v, want %d, %v, %v", ids, pick, got, left, err, want, rest.list(), wrong)
	}
	if !still(q, ids) || !apart(q, left) {
		t.Fatalf("Take(%v, %d) changed it, or shares it: %v", ids, pick, q)
	}
	if err != nil {
		return q
	}
	return left
}

// drop holds Drop against the model, and answers the new queue.
func drop(t *testing.T, ids []int, id int) Queue {
	t.Helper()
	q := roomy(ids)
	want := of(ids).without(id).list()
	got := Drop(q, id)
	if !slices.Equal(got, Queue(want)) {
		t.Fatalf("Drop(%v, %d): %v, want %v", ids, id, got, want)
	}
	if !still(q, ids) || !apart(q, got) {
		t.Fatalf("Drop(%v, %d) changed it, or shares it: %v", ids, id, q)
	}
	return got
}

// far is numbers at all bounds, as ids and as picks.
var far = []int{math.MinInt, math.MinInt + 1, -1 << 62, math.MinInt32 - 1, math.MinInt32, -65, -64, -63, -2, -1, 0, 1, 2, 63, 64, 65, math.MaxInt32, math.MaxInt32 + 1, 1 << 32, 1<<32 + 1, 1 << 62, math.MaxInt - 1, math.MaxInt}

// row is a queue of so many, from a number on.
func row(from, n int) Queue {
	var q Queue
	for i := range n {
		q = append(q, from+i)
	}
	return q
}

// P11.1, P11.2: the chapter's examples.
func TestExample(t *testing.T) {
	q := Queue{4, 5, 6}
	if id, left, err := Take(q, 4); id != 5 || !slices.Equal(left, Queue{4, 6}) || err != nil {
		t.Errorf("Take(4): %d, %v, %v", id, left, err)
	}
	if id, left, err := Take(q, -1); id != 6 || !slices.Equal(left, Queue{4, 5}) || err != nil {
		t.Errorf("Take(-1): %d, %v, %v", id, left, err)
	}
	if !slices.Equal(q, Queue{4, 5, 6}) {
		t.Errorf("Take made it %v", q)
	}
}

// P11.1: Push puts behind all, whatever the number is, and whether the queue is nil, empty, or has some; the order of pushes is the order of the queue, not that of the numbers.
func TestPush(t *testing.T) {
	for _, q := range []Queue{nil, {}} {
		if got, err := Push(q, 7); !slices.Equal(got, Queue{7}) || err != nil {
			t.Errorf("Push(%v, 7): %v, %v", q, got, err)
		}
	}
	var q Queue
	for _, id := range []int{5, 3, 9, 0, -1, 4} {
		q = push(t, q, id)
	}
	if !slices.Equal(q, Queue{5, 3, 9, 0, -1, 4}) {
		t.Errorf("pushed: %v", q)
	}
	q = nil
	for _, id := range far {
		q = push(t, q, id)
	}
	if !slices.Equal(q, Queue(far)) {
		t.Errorf("pushed: %v", q)
	}
}

// P11.1: ErrExists and nothing, of one that is at the first, a middle or the last place, also if it is below 0, or there several times.
func TestPushExists(t *testing.T) {
	for i, id := range far {
		if got, err := Push(Queue(far), id); len(got) != 0 || !like(err, api.ErrExists) {
			t.Errorf("Push of the one at %d: %v, %v", i, got, err)
		}
	}
	for _, id := range []int{4, 5, 6} {
		if got, err := Push(Queue{4, 5, 6}, id); len(got) != 0 || !like(err, api.ErrExists) {
			t.Errorf("Push of %d: %v, %v", id, got, err)
		}
	}
	if got, err := Push(Queue{3, 8, 3}, 3); len(got) != 0 || !like(err, api.ErrExists) {
		t.Errorf("Push of 3: %v, %v", got, err)
	}
	if got, err := Push(Queue{3, 3}, 8); !slices.Equal(got, Queue{3, 3, 8}) || err != nil {
		t.Errorf("Push of 8: %v, %v", got, err)
	}
}

// P11.1: 63 have room for one more, 64 and more have none; ErrExists comes ahead of ErrFull.
func TestPushFull(t *testing.T) {
	if api.MaxTable != 64 {
		t.Fatalf("MaxTable: %d", api.MaxTable)
	}
	if got, err := Push(row(-20, 63), 43); !slices.Equal(got, row(-20, 64)) || err != nil {
		t.Errorf("Push to 63: %v, %v", got, err)
	}
	for _, n := range []int{64, 65, 66, 127, 128, 129, 1000} {
		q := row(-20, n)
		for _, id := range []int{-21, n - 20, math.MinInt, math.MaxInt} {
			if got, err := Push(q, id); len(got) != 0 || !like(err, api.ErrFull) {
				t.Errorf("Push of %d to %d: %v, %v", id, n, got, err)
			}
		}
		for _, id := range []int{-20, -1, 0, 43, n - 21} {
			if got, err := Push(q, id); len(got) != 0 || !like(err, api.ErrExists) {
				t.Errorf("Push of %d to %d: %v, %v", id, n, got, err)
			}
		}
		if !slices.Equal(q, row(-20, n)) {
			t.Errorf("Push made %v of %d", q, n)
		}
	}
	same := slices.Repeat(Queue{1}, 64)
	if got, err := Push(same, 2); len(got) != 0 || !like(err, api.ErrFull) {
		t.Errorf("Push to 64 alike: %v, %v", got, err)
	}
}

// P11.1: Drop takes all that are the one away, and leaves the others in order; of one that is not there the queue stays as it is.
func TestDrop(t *testing.T) {
	for _, c := range []struct {
		q    Queue
		id   int
		want Queue
	}{
		{nil, 0, nil}, {Queue{}, 0, nil}, {nil, 5, nil}, {Queue{0}, 0, nil}, {Queue{5}, 5, nil}, {Queue{-5}, -5, nil}, {Queue{5}, -5, Queue{5}}, {Queue{5}, 0, Queue{5}},
		{Queue{6, 4, 5}, 6, Queue{4, 5}}, {Queue{6, 4, 5}, 4, Queue{6, 5}}, {Queue{6, 4, 5}, 5, Queue{6, 4}}, {Queue{6, 4, 5}, 7, Queue{6, 4, 5}},
		{Queue{2, 2, 2}, 2, nil}, {Queue{2, 7, 2, 2, 1, 2}, 2, Queue{7, 1}}, {Queue{7, 2, 2, 1}, 2, Queue{7, 1}}, {Queue{7, 2, 7, 1}, 2, Queue{7, 7, 1}}, {Queue{3, 3, 1}, 9, Queue{3, 3, 1}},
	} {
		if got := Drop(c.q, c.id); !slices.Equal(got, c.want) {
			t.Errorf("Drop(%v, %d): %v, want %v", c.q, c.id, got, c.want)
		}
	}
	for i, id := range far {
		want := slices.Concat(far[:i], far[i+1:])
		if got := Drop(Queue(far), id); !slices.Equal(got, Queue(want)) {
			t.Errorf("Drop of %d: %v", id, got)
		}
	}
	for _, n := range []int{1, 2, 63, 64, 65, 200} {
		for id := -1; id <= n; id++ {
			drop(t, row(0, n), id)
		}
	}
}

// P11.2: nothing can be taken of an empty queue, whatever the pick.
func TestTakeEmpty(t *testing.T) {
	for _, q := range []Queue{nil, {}, row(1, 3)[:0]} {
		for _, pick := range far {
			if id, left, err := Take(q, pick); id != 0 || len(left) != 0 || !like(err, api.ErrNotFound) {
				t.Errorf("Take(%v, %d): %d, %v, %v", q, pick, id, left, err)
			}
		}
	}
}

// P11.2: the first, the last and a middle place, by picks at, below and above how many there are, and below 0.
func TestTake(t *testing.T) {
	q := Queue{40, 30, 60, 50}
	for _, c := range []struct{ pick, at int }{
		{0, 0}, {1, 1}, {2, 2}, {3, 3}, {4, 0}, {5, 1}, {7, 3}, {8, 0}, {9, 1},
		{-1, 3}, {-2, 2}, {-3, 1}, {-4, 0}, {-5, 3}, {-7, 1}, {-8, 0}, {-9, 3},
		{math.MaxInt, 3}, {math.MaxInt - 1, 2}, {math.MinInt, 0}, {math.MinInt + 1, 1}, {math.MinInt + 3, 3},
	} {
		want := slices.Concat(q[:c.at], q[c.at+1:])
		if id, left, err := Take(q, c.pick); id != q[c.at] || !slices.Equal(left, want) || err != nil {
			t.Errorf("Take(%v, %d): %d, %v, %v", q, c.pick, id, left, err)
		}
	}
	for _, pick := range far {
		if id, left, err := Take(Queue{-7}, pick); id != -7 || len(left) != 0 || err != nil {
			t.Errorf("Take of the only one, %d: %d, %v, %v", pick, id, left, err)
		}
		if id, left, err := Take(Queue{0}, pick); id != 0 || len(left) != 0 || err != nil {
			t.Errorf("Take of the only one, %d: %d, %v, %v", pick, id, left, err)
		}
	}
	if id, left, err := Take(Queue{8, 9, 10}, math.MinInt); id != 9 || !slices.Equal(left, Queue{8, 10}) || err != nil {
		t.Errorf("Take of the smallest pick: %d, %v, %v", id, left, err)
	}
	if id, left, err := Take(Queue{8, 9, 10}, math.MaxInt); id != 9 || !slices.Equal(left, Queue{8, 10}) || err != nil {
		t.Errorf("Take of the greatest pick: %d, %v, %v", id, left, err)
	}
}

// P11.2: of one that is there several times only the one at the place is taken.
func TestTakeAlike(t *testing.T) {
	q := Queue{5, 1, 5, 2, 5}
	for pick, want := range []Queue{{1, 5, 2, 5}, {5, 5, 2, 5}, {5, 1, 2, 5}, {5, 1, 5, 5}, {5, 1, 5, 2}} {
		if id, left, err := Take(q, pick); id != q[pick] || !slices.Equal(left, want) || err != nil {
			t.Errorf("Take(%v, %d): %d, %v, %v", q, pick, id, left, err)
		}
	}
}

// P11.2: queues of each length up to some more than 64, by picks around how many there are, and by those far off.
func TestTakeLengths(t *testing.T) {
	for n := range 67 {
		q := row(-30, n)
		for _, about := range []int{-2 * n, -n, 0, n, 2 * n} {
			for by := -2; by <= 2; by++ {
				take(t, q, about+by)
			}
		}
		for _, pick := range far {
			take(t, q, pick)
		}
	}
}

// P11.1, P11.2, W6: what is answered shares nothing with what was given, and what was given stays, with the room behind it, also where the answer is as the queue was.
func TestApart(t *testing.T) {
	for _, ids := range [][]int{nil, {4}, {4, 5}, {4, 5, 6}, {5, 5, 5}, row(0, 63), row(0, 64), row(0, 65)} {
		for _, x := range []int{-1, 0, 1, 4, 5, 6, 62, 63, 64, 99, mark} {
			push(t, ids, x)
			take(t, ids, x)
			drop(t, ids, x)
		}
	}
}

// P11.1, P11.2, W2: a queue is nothing but its numbers: two that begin alike do not hear of each other.
func TestTwo(t *testing.T) {
	q := row(0, 5)
	a, _ := Push(q, 10)
	b, _ := Push(q, 11)
	if !slices.Equal(a, Queue{0, 1, 2, 3, 4, 10}) || !slices.Equal(b, Queue{0, 1, 2, 3, 4, 11}) {
		t.Errorf("pushed: %v, %v", a, b)
	}
	c, _ := Push(a, 12)
	d, _ := Push(a, 13)
	if !slices.Equal(c, Queue{0, 1, 2, 3, 4, 10, 12}) || !slices.Equal(d, Queue{0, 1, 2, 3, 4, 10, 13}) {
		t.Errorf("pushed: %v, %v", c, d)
	}
	_, e, _ := Take(c, 0)
	f, _ := Push(e, 0)
	g, _ := Push(e, 20)
	if !slices.Equal(f, Queue{1, 2, 3, 4, 10, 12, 0}) || !slices.Equal(g, Queue{1, 2, 3, 4, 10, 12, 20}) || !slices.Equal(c, Queue{0, 1, 2, 3, 4, 10, 12}) {
		t.Errorf("taken and pushed: %v, %v, %v", f, g, c)
	}
	h, _ := Push(Drop(g, 3), 3)
	if !slices.Equal(h, Queue{1, 2, 4, 10, 12, 20, 3}) || !slices.Equal(g, Queue{1, 2, 3, 4, 10, 12, 20}) {
		t.Errorf("dropped and pushed: %v, %v", h, g)
	}
}

// P11.1, P11.2: each queue of up to five of three numbers, in each order and with repeats, by each small number.
func TestEvery(t *testing.T) {
	var walk func(ids []int)
	walk = func(ids []int) {
		for x := -7; x <= 7; x++ {
			push(t, ids, x)
			take(t, ids, x)
			drop(t, ids, x)
		}
		if len(ids) == 5 {
			return
		}
		for _, id := range []int{-1, 0, 2} {
			walk(append(slices.Clone(ids), id))
		}
	}
	walk(nil)
}

// P11.1, P11.2: each run of five of eight steps.
func TestRuns(t *testing.T) {
	steps := []func(Queue) Queue{
		func(q Queue) Queue { return push(t, q, 1) },
		func(q Queue) Queue { return push(t, q, 2) },
		func(q Queue) Queue { return push(t, q, -3) },
		func(q Queue) Queue { return take(t, q, 0) },
		func(q Queue) Queue { return take(t, q, -1) },
		func(q Queue) Queue { return take(t, q, 4) },
		func(q Queue) Queue { return drop(t, q, 2) },
		func(q Queue) Queue { return drop(t, q, 0) },
	}
	var walk func(q Queue, left int)
	walk = func(q Queue, left int) {
		if left == 0 {
			return
		}
		for _, step := range steps {
			walk(step(q), left-1)
		}
	}
	walk(nil, 5)
}

// P11.1, P11.2: long strewn runs, that fill the queue and empty it.
func TestStrewn(t *testing.T) {
	state := uint64(11)
	next := func(n int) int {
		state = state*6364136223846793005 + 1442695040888963407
		return int(state>>33) % n
	}
	full, empty := 0, 0
	for run := range 20 {
		var q Queue
		for step := range 600 {
			pushes := 8
			if step/200%2 == 1 {
				pushes = 2
			}
			switch k := next(10); {
			case k < pushes:
				q = push(t, q, next(90)-10)
			case k%2 == 0:
				q = take(t, q, next(1<<30)-1<<29)
			default:
				q = drop(t, q, next(90)-10)
			}
			if len(q) > 64 {
				t.Fatalf("run %d: %d in it", run, len(q))
			}
			if len(q) == 64 {
				full++
			}
			if len(q) == 0 {
				empty++
			}
		}
	}
	if full == 0 || empty == 0 {
		t.Errorf("full %d times, empty %d times", full, empty)
	}
}

// P11.1, P11.2, W1: queues far longer than Push makes them are taken as they are.
func TestLong(t *testing.T) {
	const n = 1 << 20
	q := row(0, n)
	if got, err := Push(q, n); len(got) != 0 || !like(err, api.ErrFull) {
		t.Errorf("Push: %d, %v", len(got), err)
	}
	if got, err := Push(q, n-1); len(got) != 0 || !like(err, api.ErrExists) {
		t.Errorf("Push of the last: %d, %v", len(got), err)
	}
	if id, left, err := Take(q, -n); id != 0 || !slices.Equal(left, row(1, n-1)) || err != nil {
		t.Errorf("Take of the first: %d, %d, %v", id, len(left), err)
	}
	if id, left, err := Take(q, 2*n-1); id != n-1 || !slices.Equal(left, row(0, n-1)) || err != nil {
		t.Errorf("Take of the last: %d, %d, %v", id, len(left), err)
	}
	if got := Drop(q, 0); !slices.Equal(got, row(1, n-1)) {
		t.Errorf("Drop of the first: %d", len(got))
	}
	if got := Drop(q, -1); !slices.Equal(got, q) {
		t.Errorf("Drop of none: %d", len(got))
	}
}
