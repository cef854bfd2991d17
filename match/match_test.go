package match

import (
	"bytes"
	"errors"
	"fmt"
	"math"
	"reflect"
	"testing"

	"sigillum/api"
)

// The edges of ports and of threads, among them such as are the same in their lower bits.
var (
	ports   = []uint64{0, 1, 5, 255, 256, 1 << 16, 1<<16 + 5, 1 << 32, 1<<32 + 5, api.Word - 1, api.Word, api.Word + 1, api.Word + 6, 1 << 63, 1<<63 + 5, math.MaxInt64, math.MaxUint64 - 1, math.MaxUint64}
	threads = []int{0, 1, 2, -1, -2, 63, 64, 65, 255, 256, 1 << 16, 1 << 32, 1<<32 + 1, -1 << 32, math.MinInt32, math.MaxInt32, math.MinInt, math.MinInt + 1, math.MaxInt - 1, math.MaxInt}
)

// stay is where a thread of the model waits, and since when.
type stay struct {
	port  uint64
	since int
}

// model knows by numbers that rise since when each one waits; who has waited longest it works out anew each time.
type model struct {
	clock    int
	threads  map[int]stay
	requests map[int]api.Message // by when they came
}

func (d *model) offer(m api.Message) (int, bool, api.Errno) {
	found, longest := 0, math.MaxInt
	for thread, s := range d.threads {
		if s.port == m.To && s.since < longest {
			found, longest = thread, s.since
		}
	}
	if longest < math.MaxInt {
		delete(d.threads, found)
		return found, true, 0
	}
	if len(d.requests) == 64 {
		return 0, false, api.ErrFull
	}
	d.clock++
	d.requests[d.clock] = alike(m)
	return 0, false, 0
}

func (d *model) get(port uint64, thread int) (api.Message, bool, api.Errno) {
	if d.waits(thread) {
		return api.Message{}, false, api.ErrState
	}
	longest := math.MaxInt
	for since, m := range d.requests {
		if m.To == port {
			longest = min(longest, since)
		}
	}
	if longest < math.MaxInt {
		m := d.requests[longest]
		delete(d.requests, longest)
		return m, true, 0
	}
	if len(d.threads) == 64 {
		return api.Message{}, false, api.ErrFull
	}
	d.clock++
	d.threads[thread] = stay{port, d.clock}
	return api.Message{}, false, 0
}

func (d *model) waits(thread int) bool {
	_, ok := d.threads[thread]
	return ok
}

func (d *model) cancel(thread int) bool {
	did := d.waits(thread)
	delete(d.threads, thread)
	return did
}

// alike is a message with memory of its own.
func alike(m api.Message) api.Message {
	m.Data = append([]byte(nil), m.Data...)
	return m
}

// same is whether two messages are the same; data without bytes is nil or empty, as one likes.
func same(a, b api.Message) bool {
	data := bytes.Equal(a.Data, b.Data)
	a.Data, b.Data = nil, nil
	return data && reflect.DeepEqual(a, b)
}

// tells is whether an error is the one that is wanted; 0 is none.
func tells(e error, want api.Errno) bool {
	if want == 0 {
		return e == nil
	}
	return errors.Is(e, want)
}

// pair is a Match and the model of it.
type pair struct {
	x *Match
	d *model
}

func fresh() pair {
	return pair{&Match{}, &model{threads: map[int]stay{}, requests: map[int]api.Message{}}}
}

// look holds Len and Waits against the model, twice: they change nothing.
func (a pair) look(t *testing.T, after string) {
	t.Helper()
	for range 2 {
		if w, r := a.x.Len(); w != len(a.d.threads) || r != len(a.d.requests) {
			t.Fatalf("after %s: Len %d, %d; want %d, %d", after, w, r, len(a.d.threads), len(a.d.requests))
		}
		for _, thread := range threads {
			a.waits(t, thread)
		}
		for thread := range a.d.threads {
			a.waits(t, thread)
		}
	}
}

func (a pair) waits(t *testing.T, thread int) {
	t.Helper()
	if got := a.x.Waits(thread); got != a.d.waits(thread) {
		t.Fatalf("Waits(%d): %v", thread, got)
	}
}

func (a pair) offer(t *testing.T, m api.Message) {
	t.Helper()
	held := alike(m)
	want, is, fault := a.d.offer(m)
	got, ok, e := a.x.Offer(m)
	if got != want || ok != is || !tells(e, fault) {
		t.Fatalf("Offer(To %d): %d, %v, %v; want %d, %v, %v", m.To, got, ok, e, want, is, fault)
	}
	if !same(m, held) {
		t.Fatalf("Offer wrote into what was handed in: %v, it was %v", m, held)
	}
	a.look(t, "Offer")
	if got := a.x.Waits(want); is && got {
		t.Fatalf("%d waits still", want)
	}
}

func (a pair) get(t *testing.T, port uint64, thread int) {
	t.Helper()
	want, is, fault := a.d.get(port, thread)
	got, ok, e := a.x.Get(port, thread)
	if !same(got, want) || ok != is || !tells(e, fault) {
		t.Fatalf("Get(%d, %d): %v, %v, %v; want %v, %v, %v", port, thread, got, ok, e, want, is, fault)
	}
	a.waits(t, thread)
	a.look(t, "Get")
}

func (a pair) cancel(t *testing.T, thread int) {
	t.Helper()
	want := a.d.cancel(thread)
	if got := a.x.Cancel(thread); got != want {
		t.Fatalf("Cancel(%d): %v; want %v", thread, got, want)
	}
	a.waits(t, thread)
	a.look(t, "Cancel")
}

// free is a thread that does not wait.
func (a pair) free() int {
	thread := 1_000_000
	for a.d.waits(thread) {
		thread++
	}
	return thread
}

// drain takes all out that wait, at the port of the one that came last first: there, too, who has waited longest comes first.
func (a pair) drain(t *testing.T) {
	t.Helper()
	for len(a.d.threads) > 0 {
		last := stay{}
		for _, s := range a.d.threads {
			if s.since > last.since {
				last = s
			}
		}
		a.offer(t, api.Message{To: last.port})
	}
	for len(a.d.requests) > 0 {
		last := 0
		for since := range a.d.requests {
			last = max(last, since)
		}
		a.get(t, a.d.requests[last].To, a.free())
	}
	a.look(t, "the last one was taken out")
}

// ask is a request to a port that is told from others by its number.
func ask(port uint64, id int) api.Message {
	return api.Message{To: port, ID: uint32(id), Arg: uint64(id) * 3, Data: []byte(fmt.Sprint("ask ", id))}
}

// fill has so many threads wait, 0 and on, at the ports 10 to 12 in turn, and so many requests, to the ports 20 to 22 in turn, mixed.
func fill(t *testing.T, threads, requests int) pair {
	t.Helper()
	a := fresh()
	for k := range max(threads, requests) {
		if k < requests {
			a.offer(t, ask(uint64(20+k%3), k))
		}
		if k < threads {
			a.get(t, uint64(10+k%3), k)
		}
	}
	many(t, a.x, threads, requests)
	return a
}

// many has so many threads, and so many requests, wait.
func many(t *testing.T, x *Match, threads, requests int) {
	t.Helper()
	if w, r := x.Len(); w != threads || r != requests {
		t.Fatalf("Len %d, %d; want %d, %d", w, r, threads, requests)
	}
}

// goes has a request to a port go to a thread.
func goes(t *testing.T, x *Match, port uint64, thread int) {
	t.Helper()
	if got, ok, e := x.Offer(ask(port, 999)); got != thread || !ok || e != nil {
		t.Fatalf("Offer(To %d): %d, %v, %v; want %d", port, got, ok, e, thread)
	}
}

// lies has a request wait.
func lies(t *testing.T, x *Match, m api.Message) {
	t.Helper()
	if got, ok, e := x.Offer(m); got != 0 || ok || e != nil {
		t.Fatalf("Offer(To %d): %d, %v, %v; want that it waits", m.To, got, ok, e)
	}
}

// gets has a thread get a request at a port, told by its number.
func gets(t *testing.T, x *Match, port uint64, thread, id int) {
	t.Helper()
	if m, ok, e := x.Get(port, thread); !same(m, ask(port, id)) || !ok || e != nil {
		t.Fatalf("Get(%d, %d): %v, %v, %v; want %d", port, thread, m, ok, e, id)
	}
}

// stands has a thread wait at a port.
func stands(t *testing.T, x *Match, port uint64, thread int) {
	t.Helper()
	if m, ok, e := x.Get(port, thread); !same(m, api.Message{}) || ok || e != nil {
		t.Fatalf("Get(%d, %d): %v, %v, %v; want that it waits", port, thread, m, ok, e)
	}
}

// refused has a Get answer nothing but an error.
func refused(t *testing.T, x *Match, port uint64, thread int, want api.Errno) {
	t.Helper()
	if m, ok, e := x.Get(port, thread); !same(m, api.Message{}) || ok || !errors.Is(e, want) {
		t.Fatalf("Get(%d, %d): %v, %v, %v; want %v", port, thread, m, ok, e, want)
	}
}

// full has an Offer answer nothing but ErrFull.
func full(t *testing.T, x *Match, m api.Message) {
	t.Helper()
	if thread, ok, e := x.Offer(m); thread != 0 || ok || !errors.Is(e, api.ErrFull) {
		t.Fatalf("Offer(To %d): %d, %v, %v; want ErrFull", m.To, thread, ok, e)
	}
}

// P20.1, P20.2: the chapter's example.
func TestExample(t *testing.T) {
	x := &Match{}
	stands(t, x, 5, 1)
	stands(t, x, 5, 2)
	goes(t, x, 5, 1)
	lies(t, x, ask(6, 7))
	gets(t, x, 6, 1, 7)
	many(t, x, 1, 0)
	goes(t, x, 5, 2)
	many(t, x, 0, 0)
}

// P20.3: in a zero Match nobody waits.
func TestZero(t *testing.T) {
	var x Match
	many(t, &x, 0, 0)
	for _, thread := range threads {
		if x.Waits(thread) || x.Cancel(thread) {
			t.Errorf("%d waits in a zero Match", thread)
		}
	}
	many(t, &x, 0, 0)
	for _, port := range ports {
		y := Match{}
		lies(t, &y, ask(port, 1))
		y = Match{}
		stands(t, &y, port, 1)
	}
}

// P20.1: of several threads at one port the one that has waited longest is told; those of other ports keep their order.
func TestOfferOrder(t *testing.T) {
	x := &Match{}
	for _, w := range []waiter{{5, 9}, {6, 3}, {5, 1}, {7, 8}, {6, 2}, {5, 4}, {6, 0}} {
		stands(t, x, w.port, w.thread)
	}
	for left, w := range []waiter{{6, 3}, {5, 9}, {5, 1}, {7, 8}, {6, 2}, {6, 0}, {5, 4}} {
		many(t, x, 7-left, 0)
		goes(t, x, w.port, w.thread)
		if x.Waits(w.thread) {
			t.Fatalf("%d waits still", w.thread)
		}
	}
	many(t, x, 0, 0)
	for k, port := range []uint64{5, 6, 7} {
		lies(t, x, ask(port, 1))
		many(t, x, 0, k+1)
	}
}

// P20.2: of several requests to one port the one that has waited longest is got; those of other ports keep their order.
func TestGetOrder(t *testing.T) {
	x := &Match{}
	for _, m := range []waiter{{5, 9}, {6, 3}, {5, 1}, {7, 8}, {6, 2}, {5, 4}, {6, 0}} {
		lies(t, x, ask(m.port, m.thread))
	}
	for left, m := range []waiter{{6, 3}, {5, 9}, {5, 1}, {7, 8}, {6, 2}, {6, 0}, {5, 4}} {
		many(t, x, 0, 7-left)
		gets(t, x, m.port, 77, m.thread)
		if x.Waits(77) {
			t.Fatal("one that has got a request waits")
		}
	}
	many(t, x, 0, 0)
	for k, port := range []uint64{5, 6, 7} {
		stands(t, x, port, k)
		many(t, x, k+1, 0)
	}
}

// P20.1, P20.2: a request that does not find a thread does not keep others from it, nor a thread that finds none.
func TestPast(t *testing.T) {
	x := &Match{}
	stands(t, x, 1, 11)
	lies(t, x, ask(2, 20))
	stands(t, x, 3, 33)
	lies(t, x, ask(4, 40))
	many(t, x, 2, 2)
	goes(t, x, 3, 33)
	gets(t, x, 4, 33, 40)
	many(t, x, 1, 1)
	goes(t, x, 1, 11)
	gets(t, x, 2, 11, 20)
	many(t, x, 0, 0)
}

// P20.2: a request that found its thread does not wait: nobody gets it by Match once more.
func TestHandedOn(t *testing.T) {
	x := &Match{}
	stands(t, x, 5, 1)
	goes(t, x, 5, 1)
	many(t, x, 0, 0)
	stands(t, x, 5, 2)
	many(t, x, 1, 0)
	lies(t, x, ask(6, 1))
	gets(t, x, 6, 3, 1)
	many(t, x, 1, 0)
	lies(t, x, ask(6, 2))
	many(t, x, 1, 1)
}

// P20.1, P20.2, P20.3: ports are told apart by all of their bits, 0 and the greatest one among them.
func TestPorts(t *testing.T) {
	a := fresh()
	for k, port := range ports {
		a.get(t, port, k)
	}
	many(t, a.x, len(ports), 0)
	for k := range ports {
		at := (k*7 + 3) % len(ports)
		goes(t, a.x, ports[at], at)
	}
	many(t, a.x, 0, 0)
	for k, port := range ports {
		lies(t, a.x, ask(port, k))
	}
	for k := range ports {
		at := (k*5 + 2) % len(ports)
		gets(t, a.x, ports[at], 1, at)
	}
	many(t, a.x, 0, 0)
	for _, one := range ports {
		for _, other := range ports {
			b := fresh()
			b.get(t, one, 1)
			b.offer(t, ask(other, 1))
			b.get(t, other, 2)
			b.offer(t, ask(one, 2))
			b.drain(t)
		}
	}
}

// P20.1, P20.2, P20.3: a thread is any number, told apart by all of its bits; 0 is one, too.
func TestThreads(t *testing.T) {
	a := fresh()
	for k, thread := range threads {
		a.get(t, uint64(k%2), thread)
	}
	for _, thread := range threads {
		for _, port := range []uint64{0, 1, 2} {
			a.get(t, port, thread)
		}
	}
	for range threads {
		a.offer(t, ask(0, 1))
		a.offer(t, ask(1, 2))
	}
	a.drain(t)
	for _, one := range threads {
		for _, other := range threads {
			b := fresh()
			b.get(t, 5, one)
			b.get(t, 5, other)
			b.cancel(t, other)
			b.cancel(t, one)
			b.get(t, 6, one)
			b.offer(t, ask(7, 1))
			b.get(t, 7, other)
			b.offer(t, ask(6, 2))
			b.drain(t)
		}
	}
}

// P20.1: the thread 0 that is told is not the 0 beside a false.
func TestThreadNought(t *testing.T) {
	x := &Match{}
	stands(t, x, 5, 0)
	if !x.Waits(0) {
		t.Fatal("0 does not wait")
	}
	goes(t, x, 5, 0)
	lies(t, x, ask(5, 1))
	if x.Waits(0) {
		t.Fatal("0 waits")
	}
}

// P20.1: the 64th request waits, the 65th is ErrFull, and nothing changes, however many threads wait elsewhere.
func TestRequestsFull(t *testing.T) {
	for _, waiting := range []int{0, 1, 63, 64} {
		for _, port := range []uint64{20, 21, 22, 23, 0, math.MaxUint64} {
			a := fill(t, waiting, 63)
			lies(t, a.x, ask(23, 63))
			a.d.offer(ask(23, 63))
			for range 3 {
				full(t, a.x, ask(port, 64))
				a.offer(t, ask(port, 65))
				many(t, a.x, waiting, 64)
			}
			a.drain(t)
		}
	}
}

// P20.2: the 64th thread waits, the 65th is ErrFull, and nothing changes, however many requests wait elsewhere.
func TestThreadsFull(t *testing.T) {
	for _, waiting := range []int{0, 1, 63, 64} {
		for _, port := range []uint64{10, 11, 12, 13, 0, math.MaxUint64} {
			a := fill(t, 63, waiting)
			stands(t, a.x, 13, 63)
			a.d.get(13, 63)
			for _, thread := range []int{64, -1, math.MinInt, math.MaxInt} {
				refused(t, a.x, port, thread, api.ErrFull)
				a.get(t, port, thread)
				if a.x.Waits(thread) || a.x.Cancel(thread) {
					t.Fatalf("%d waits, for which there was no room", thread)
				}
				many(t, a.x, 64, waiting)
			}
			a.drain(t)
		}
	}
}

// P20.1: an Offer that finds a thread is not ErrFull, though 64 requests wait.
func TestOfferWhileFull(t *testing.T) {
	for _, waiting := range []int{1, 2, 64} {
		a := fill(t, waiting, 64)
		for k := range waiting {
			full(t, a.x, ask(20, 64))
			goes(t, a.x, uint64(10+k%3), k)
			many(t, a.x, waiting-k-1, 64)
		}
		full(t, a.x, ask(10, 65))
	}
}

// P20.2: a Get that finds a request is not ErrFull, though 64 threads wait, and has nobody wait.
func TestGetWhileFull(t *testing.T) {
	for _, waiting := range []int{1, 2, 64} {
		a := fill(t, 64, waiting)
		for k := range waiting {
			refused(t, a.x, 10, 64, api.ErrFull)
			gets(t, a.x, uint64(20+k%3), 64, k)
			many(t, a.x, 64, waiting-k-1)
			if a.x.Waits(64) {
				t.Fatal("one that has got a request waits")
			}
		}
		refused(t, a.x, 20, 64, api.ErrFull)
	}
}

// P20.1, P20.2, P20.3: behind each call that takes one out there is room for one again, and for no more.
func TestRoomAgain(t *testing.T) {
	a := fill(t, 64, 64)
	for k, take := range []func(){
		func() { a.offer(t, ask(11, 1)) },
		func() { a.cancel(t, 63) },
		func() { a.cancel(t, 0) },
		func() { a.offer(t, ask(10, 2)) },
		func() { a.cancel(t, 30) },
	} {
		take()
		many(t, a.x, 63, 64)
		a.get(t, 13, 100+k)
		many(t, a.x, 64, 64)
		a.get(t, 13, 200+k)
		a.offer(t, ask(20, 100+k))
	}
	for k, port := range []uint64{20, 22, 21, 22} {
		a.get(t, port, 300+k)
		many(t, a.x, 64, 63)
		a.offer(t, ask(23, 100+k))
		many(t, a.x, 64, 64)
		a.offer(t, ask(23, 200+k))
		a.get(t, 14, 300+k)
	}
	a.drain(t)
}

// P20.3: Cancel of the first, of one in the middle and of the last one at a port: all others keep their order.
func TestCancelPlaces(t *testing.T) {
	for many := 1; many <= 9; many++ {
		for gone := range many {
			a := fill(t, many, 4)
			a.cancel(t, gone)
			a.cancel(t, gone)
			a.offer(t, ask(uint64(10+gone%3), 50))
			a.get(t, uint64(10+gone%3), gone)
			a.drain(t)
		}
	}
	for many := 1; many <= 6; many++ {
		for choice := range 1 << many {
			a := fresh()
			for k := range many {
				a.get(t, 5, k)
			}
			for k := range many {
				if choice>>k&1 == 1 {
					a.cancel(t, k)
				}
			}
			for range many {
				a.offer(t, ask(5, 1))
			}
			a.drain(t)
		}
	}
}

// P20.3: a thread that was cancelled is not told by Offer; one that waits elsewhere is.
func TestCancelled(t *testing.T) {
	x := &Match{}
	for k, port := range []uint64{5, 5, 6, 5} {
		stands(t, x, port, k)
	}
	if !x.Cancel(0) || x.Cancel(0) || x.Waits(0) {
		t.Fatal("0 waits still")
	}
	many(t, x, 3, 0)
	if !x.Cancel(2) {
		t.Fatal("2 did not wait")
	}
	lies(t, x, ask(6, 1))
	many(t, x, 2, 1)
	goes(t, x, 5, 1)
	goes(t, x, 5, 3)
	lies(t, x, ask(5, 2))
	if x.Cancel(1) || x.Cancel(3) {
		t.Fatal("one that was told waits still")
	}
	many(t, x, 0, 2)
}

// P20.3: Cancel of one that does not wait is false, and nothing changes: neither one that never did, nor one that was told, was cancelled, or got a request.
func TestCancelWrong(t *testing.T) {
	for _, c := range []struct{ threads, requests int }{{0, 0}, {0, 3}, {3, 0}, {5, 7}, {64, 64}} {
		a := fill(t, c.threads, c.requests)
		for _, thread := range []int{-1, c.threads, c.threads + 1, 64, 1 << 32, math.MinInt, math.MaxInt, 20, 10} {
			if !a.d.waits(thread) {
				a.cancel(t, thread)
				many(t, a.x, c.threads, c.requests)
			}
		}
		a.offer(t, ask(10, 100))
		a.cancel(t, 0)
		a.get(t, 20, 500)
		a.cancel(t, 500)
		a.drain(t)
		a.cancel(t, 0)
	}
}

// P20.1, P20.2, P20.3: one that was cancelled, or told, waits again at the same port, or another one, behind all.
func TestWaitsAgain(t *testing.T) {
	for _, again := range []uint64{5, 6, 7} {
		for _, cancelled := range []bool{true, false} {
			x := &Match{}
			for k, port := range []uint64{5, 5, 6, 5, 6} {
				stands(t, x, port, k)
			}
			if cancelled {
				x.Cancel(0)
			} else {
				goes(t, x, 5, 0)
			}
			stands(t, x, again, 0)
			refused(t, x, 5, 0, api.ErrState)
			for _, w := range []waiter{{5, 1}, {5, 3}, {6, 2}, {6, 4}, {again, 0}} {
				goes(t, x, w.port, w.thread)
			}
			many(t, x, 0, 0)
		}
	}
}

// P20.2: one that has got a request may get again: the next one, or it waits.
func TestGetsAgain(t *testing.T) {
	x := &Match{}
	lies(t, x, ask(5, 1))
	lies(t, x, ask(6, 2))
	lies(t, x, ask(5, 3))
	gets(t, x, 5, 4, 1)
	gets(t, x, 5, 4, 3)
	stands(t, x, 5, 4)
	refused(t, x, 6, 4, api.ErrState)
	many(t, x, 1, 1)
	goes(t, x, 5, 4)
	gets(t, x, 6, 4, 2)
	many(t, x, 0, 0)
}

// P20.2: Get of a thread that waits is ErrState, and nothing changes: at its port, another one, one to which a request waits.
func TestGetWrong(t *testing.T) {
	for _, c := range []struct{ threads, requests int }{{1, 0}, {1, 1}, {4, 3}, {63, 64}, {64, 0}, {64, 3}, {64, 64}} {
		for _, thread := range []int{0, c.threads / 2, c.threads - 1} {
			a := fill(t, c.threads, c.requests)
			for _, port := range []uint64{10, 11, 12, 20, 21, 22, 23, 0, math.MaxUint64} {
				refused(t, a.x, port, thread, api.ErrState)
				a.get(t, port, thread)
				many(t, a.x, c.threads, c.requests)
			}
			a.drain(t)
		}
	}
}

// P20.2, W4: of a thread that waits ErrState is told, also where 64 threads do; ErrFull only of one that does not.
func TestStateFirst(t *testing.T) {
	a := fill(t, 64, 0)
	for thread := range 64 {
		refused(t, a.x, 99, thread, api.ErrState)
	}
	refused(t, a.x, 99, 64, api.ErrFull)
	a.drain(t)
}

// P20.2: Get of a thread that waits leaves it at its port, and in its place.
func TestGetWrongPlace(t *testing.T) {
	x := &Match{}
	stands(t, x, 5, 1)
	stands(t, x, 5, 2)
	refused(t, x, 5, 1, api.ErrState)
	refused(t, x, 6, 1, api.ErrState)
	lies(t, x, ask(6, 1))
	refused(t, x, 6, 2, api.ErrState)
	gets(t, x, 6, 3, 1)
	goes(t, x, 5, 1)
	goes(t, x, 5, 2)
	many(t, x, 0, 0)
}

// strange is messages whose fields are at their edges, also such as may not be by layer 4.
func strange() []api.Message {
	all := api.Cap{Port: math.MaxUint64, Object: math.MaxUint32, Rights: math.MaxUint8, Check: math.MaxUint64}
	ms := []api.Message{
		{},
		{Data: []byte{}},
		{Data: []byte{0}},
		{Data: bytes.Repeat([]byte{255}, api.MaxData)},
		{Data: bytes.Repeat([]byte{7}, api.MaxData+1)},
		{Data: bytes.Repeat([]byte{1, 2, 3}, 100_000)},
		{Cap: api.Cap{Port: 1, Object: 2, Rights: 3, Check: 4}},
		{Cap: all},
		{To: math.MaxUint64, Reply: math.MaxUint64, ID: math.MaxUint32, Op: math.MaxUint16, Status: math.MaxUint16, Cap: all, Arg: math.MaxUint64, Data: []byte("all")},
		{Cap: api.Cap{Object: api.Objects}},
	}
	for _, n := range []uint64{1, api.Word, api.Word + 1, 1 << 63} {
		ms = append(ms, api.Message{To: n}, api.Message{Reply: n}, api.Message{Arg: n}, api.Message{ID: uint32(n | 1)}, api.Message{Op: uint16(n | 1)}, api.Message{Status: uint16(n | 1)})
		ms = append(ms, api.Message{Cap: api.Cap{Port: n}}, api.Message{Cap: api.Cap{Object: uint32(n | 1)}}, api.Message{Cap: api.Cap{Rights: uint8(n | 1)}}, api.Message{Cap: api.Cap{Check: n}})
	}
	return ms
}

// P20.1, P20.2: any message whatever waits, and is got as it was; and finds a thread by nothing but its To.
func TestAnyMessage(t *testing.T) {
	a, b := fresh(), fresh()
	for k, m := range strange() {
		a.offer(t, m)
		b.get(t, m.To, k)
	}
	a.drain(t)
	for _, m := range strange() {
		b.offer(t, m)
	}
	b.drain(t)
	for _, m := range strange() {
		c := fresh()
		c.get(t, 5, 1)
		m.To = 5
		c.offer(t, m)
		c.offer(t, m)
		c.get(t, 5, 1)
		c.drain(t)
	}
}

// P20.2: requests that are the same are told apart by nothing but their order: as many are got as were offered.
func TestSameOnes(t *testing.T) {
	x := &Match{}
	for range 3 {
		lies(t, x, ask(5, 1))
	}
	for left := range 3 {
		many(t, x, 0, 3-left)
		gets(t, x, 5, 1, 1)
	}
	stands(t, x, 5, 1)
}

// scrawl writes into all of a message's data, and into what memory lies behind it.
func scrawl(m api.Message) {
	data := m.Data[:cap(m.Data)]
	for k := range data {
		data[k] = '#'
	}
}

// W6: what waits is not changed by one who later writes into what was handed in.
func TestHandedIn(t *testing.T) {
	a := fresh()
	memory := []byte("abcdefghijkl")
	for k := range 4 {
		a.offer(t, api.Message{To: uint64(k % 2), ID: uint32(k), Data: memory[3*k : 3*k+3]})
	}
	for k := range memory {
		memory[k] = '#'
	}
	a.drain(t)
}

// W6: an Offer that has no room, or that finds a thread, keeps nothing, and writes into nothing.
func TestHandedInNotKept(t *testing.T) {
	a := fill(t, 1, 64)
	for _, port := range []uint64{20, 10} {
		m := ask(port, 100)
		a.offer(t, m)
		scrawl(m)
	}
	a.drain(t)
}

// W6: what Get answers is new memory: neither another answer, nor what waits, nor what was handed in has it.
func TestGot(t *testing.T) {
	x := &Match{}
	m := ask(5, 1)
	for range 4 {
		lies(t, x, m)
	}
	var held []api.Message
	for k := range 4 {
		got, ok, e := x.Get(5, k)
		if !ok || e != nil || !same(got, ask(5, 1)) {
			t.Fatal(got, ok, e)
		}
		scrawl(got)
		_ = append(got.Data, "behind it"...)
		if !same(m, ask(5, 1)) {
			t.Fatal("what was handed in has changed")
		}
		held = append(held, got)
		lies(t, x, m)
	}
	for k, got := range held {
		if !bytes.Equal(got.Data, []byte("#####")) {
			t.Fatalf("the answer %d has changed: %v", k, got)
		}
		gets(t, x, 5, k, 1)
	}
	many(t, x, 0, 0)
}

// W2: two of them do not know of each other.
func TestTwo(t *testing.T) {
	a, b := fresh(), fresh()
	a.get(t, 5, 1)
	b.look(t, "a Get of the other one")
	b.offer(t, ask(5, 1))
	b.get(t, 6, 1)
	a.offer(t, ask(6, 2))
	a.cancel(t, 1)
	b.waits(t, 1)
	a.get(t, 6, 2)
	b.get(t, 5, 2)
	b.drain(t)
	a.drain(t)
}

// twin is a pair of its own with the same in it; its Match is a copy by value.
func (a pair) twin() pair {
	x := *a.x
	b := fresh()
	b.x = &x
	b.d.clock = a.d.clock
	for thread, s := range a.d.threads {
		b.d.threads[thread] = s
	}
	for since, m := range a.d.requests {
		b.d.requests[since] = alike(m)
	}
	return b
}

// steps is calls on what fill makes, and on what these leave.
func steps(t *testing.T) []func(a pair) {
	return []func(a pair){
		func(a pair) { a.offer(t, ask(10, 50)) },
		func(a pair) { a.offer(t, ask(11, 51)) },
		func(a pair) { a.offer(t, ask(20, 52)) },
		func(a pair) { a.get(t, 10, 0) },
		func(a pair) { a.get(t, 20, 3) },
		func(a pair) { a.get(t, 10, 70) },
		func(a pair) { a.get(t, 20, 71) },
		func(a pair) { a.get(t, 21, 1) },
		func(a pair) { a.cancel(t, 0) },
		func(a pair) { a.cancel(t, 1) },
		func(a pair) { a.cancel(t, 70) },
	}
}

// fillings is how many threads and requests wait ahead of a run.
var fillings = []struct{ threads, requests int }{{0, 0}, {2, 0}, {0, 2}, {4, 4}, {64, 63}, {63, 64}, {64, 64}}

// W2: a copy of a Match is one of its own: what is called of one is not seen in the other, nor is what is written into what was got.
func TestCopy(t *testing.T) {
	for _, c := range fillings {
		for _, one := range steps(t) {
			for _, other := range steps(t) {
				a := fill(t, c.threads, c.requests)
				one(a)
				b := a.twin()
				one(b)
				other(b)
				other(a)
				one(a)
				a.look(t, "the steps of both")
				b.look(t, "the steps of both")
			}
		}
	}
	a := fill(t, 0, 3)
	b := a.twin()
	for _, port := range []uint64{20, 21, 22} {
		got, _, _ := b.x.Get(port, 1)
		scrawl(got)
	}
	a.drain(t)
}

// P20.1, P20.2, P20.3: each run of three of the steps, or of fewer, from few, many and as many as there may be that wait; then all of them are taken out.
func TestRuns(t *testing.T) {
	all := append(steps(t), func(pair) {})
	n := len(all)
	for _, c := range fillings {
		start := fill(t, c.threads, c.requests)
		for run := range n * n * n {
			a := start.twin()
			for rest, k := run, 0; k < 3; rest, k = rest/n, k+1 {
				all[rest%n](a)
			}
			if c.threads+c.requests < 20 || run%29 == 0 {
				a.drain(t)
			}
		}
		start.drain(t)
	}
}

// strew is a source of numbers below n.
func strew(seed uint64) func(n int) int {
	state := seed + 20
	return func(n int) int {
		state = state*6364136223846793005 + 1442695040888963407
		return int(state>>33) % n
	}
}

// P20.1, P20.2, P20.3: long strewn runs of all calls, with more requests or more threads, at few ports or many.
func TestStrewn(t *testing.T) {
	found, got, refusals := 0, 0, 0
	for seed := range uint64(90) {
		draw := strew(seed)
		a := fresh()
		places, names, odds := 1+draw(12), 2+draw(100), 1+draw(9)
		for step := range 300 {
			w, r := a.x.Len()
			switch k := draw(11); {
			case k == 10:
				a.cancel(t, draw(names)-names/2)
			case k < odds:
				a.offer(t, ask(uint64(draw(places)), step))
				if after, _ := a.x.Len(); after < w {
					found++
				}
			default:
				a.get(t, uint64(draw(places)), draw(names)-names/2)
				if _, after := a.x.Len(); after < r {
					got++
				}
			}
			if w == 64 || r == 64 {
				refusals++
			}
		}
		a.drain(t)
	}
	if found < 1000 || got < 1000 || refusals < 1000 {
		t.Errorf("%d found a thread, %d got a request, %d times no room", found, got, refusals)
	}
}
