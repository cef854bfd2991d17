package served

import (
	"bytes"
	"errors"
	"fmt"
	"math"
	"sort"
	"testing"

	"sigillum/api"
)

// The edges of Reply ports and of IDs; among them such as are the same in their lower bits.
var (
	ports = []uint64{0, 1, 2, 5, 255, 256, 256 + 5, 1 << 16, 1<<16 + 5, 1 << 32, 1<<32 + 1, 1<<32 + 5, api.Word - 1, api.Word, api.Word + 1, api.Word + 6, 1 << 63, 1<<63 + 5, math.MaxInt64, math.MaxUint64 - 1, math.MaxUint64}
	ids   = []uint32{0, 1, 2, 3, 31, 32, 33, 255, 256, 257, 1 << 16, 1<<16 + 1, math.MaxInt32, 1 << 31, 1<<31 + 1, math.MaxUint32 - 1, math.MaxUint32}
)

// key is what a request is told by.
type key struct {
	port uint64
	id   uint32
}

// fact is what the model knows of a request: when it came, and its reply, if it has one.
type fact struct {
	came  int
	reply *api.Message
}

// model knows requests by their keys, without an order; that it works out of when they came.
type model struct {
	clock int
	facts map[key]fact
}

func (d *model) take(m api.Message) (State, api.Message, api.Errno) {
	k := key{m.Reply, m.ID}
	if f, ok := d.facts[k]; ok {
		if f.reply == nil {
			return Busy, api.Message{}, 0
		}
		return Again, alike(*f.reply), 0
	}
	if len(d.facts) == 32 {
		eldest, found := d.eldest()
		if !found {
			return New, api.Message{}, api.ErrFull
		}
		delete(d.facts, eldest)
	}
	d.clock++
	d.facts[k] = fact{came: d.clock}
	return New, api.Message{}, 0
}

// eldest is which of those that have a reply came first.
func (d *model) eldest() (key, bool) {
	for _, k := range d.order() {
		if d.facts[k].reply != nil {
			return k, true
		}
	}
	return key{}, false
}

func (d *model) reply(m, r api.Message) bool {
	k := key{m.Reply, m.ID}
	f, ok := d.facts[k]
	if !ok || f.reply != nil {
		return false
	}
	r = alike(r)
	d.facts[k] = fact{f.came, &r}
	return true
}

// order is all requests that are remembered, as they came.
func (d *model) order() []key {
	var ks []key
	for k := range d.facts {
		ks = append(ks, k)
	}
	sort.Slice(ks, func(a, b int) bool { return d.facts[ks[a]].came < d.facts[ks[b]].came })
	return ks
}

// alike is a message with memory of its own.
func alike(m api.Message) api.Message {
	m.Data = append([]byte(nil), m.Data...)
	return m
}

// same is whether two messages are the same; data without bytes is nil or empty, as one likes.
func same(a, b api.Message) bool {
	return a.To == b.To && a.Reply == b.Reply && a.ID == b.ID && a.Op == b.Op && a.Status == b.Status && a.Cap == b.Cap && a.Arg == b.Arg && bytes.Equal(a.Data, b.Data)
}

// tells is whether an error is the one that is wanted; 0 is none.
func tells(e error, want api.Errno) bool {
	if want == 0 {
		return e == nil
	}
	return errors.Is(e, want)
}

// pair is a Served and the model of it.
type pair struct {
	s *Served
	d *model
}

func fresh() pair { return pair{&Served{}, &model{facts: map[key]fact{}}} }

// twin is a pair of its own with the same in it; its Served is a copy by value.
func (a pair) twin() pair {
	s := *a.s
	d := &model{clock: a.d.clock, facts: map[key]fact{}}
	for k, f := range a.d.facts {
		d.facts[k] = f
	}
	return pair{&s, d}
}

// look holds Len, and what is told of each request that is remembered, against the model, twice: nothing changes by it.
func (a pair) look(t *testing.T, after string) {
	t.Helper()
	for range 2 {
		if got := a.s.Len(); got != len(a.d.facts) {
			t.Fatalf("after %s: Len %d; want %d", after, got, len(a.d.facts))
		}
		for k := range a.d.facts {
			m := api.Message{Reply: k.port, ID: k.id}
			state, reply, _ := a.d.take(m)
			if s, r, e := a.s.Take(m); s != state || !same(r, reply) || e != nil {
				t.Fatalf("after %s: %v: %v, %v, %v; want %v, %v", after, k, s, r, e, state, reply)
			}
		}
	}
}

// take holds a Take against the model.
func (a pair) take(t *testing.T, m api.Message) {
	t.Helper()
	held := alike(m)
	state, reply, fault := a.d.take(m)
	if s, r, e := a.s.Take(m); s != state || !same(r, reply) || !tells(e, fault) {
		t.Fatalf("Take(%v): %v, %v, %v; want %v, %v, %v", m, s, r, e, state, reply, fault)
	}
	if !same(m, held) {
		t.Fatalf("Take wrote into what was handed in: %v, it was %v", m, held)
	}
	a.look(t, "Take")
}

// reply holds a Reply against the model.
func (a pair) reply(t *testing.T, m, r api.Message) {
	t.Helper()
	heldM, heldR := alike(m), alike(r)
	want := a.d.reply(m, r)
	if got := a.s.Reply(m, r); got != want {
		t.Fatalf("Reply(%v, %v): %v; want %v", m, r, got, want)
	}
	if !same(m, heldM) || !same(r, heldR) {
		t.Fatalf("Reply wrote into what was handed in: %v, %v; they were %v, %v", m, r, heldM, heldR)
	}
	a.look(t, "Reply")
}

// refuses holds a Reply against the model, which must be false.
func (a pair) refuses(t *testing.T, m, r api.Message) {
	t.Helper()
	if a.twin().d.reply(m, r) {
		t.Fatalf("the model takes the reply of %v", m)
	}
	a.reply(t, m, r)
}

// drain has all requests answered, the last one first, and then forgotten by others: they go in the order in which they came.
func (a pair) drain(t *testing.T) {
	t.Helper()
	b := a.twin()
	for n := 0; len(b.d.facts) < 32; n++ {
		b.take(t, ask(77, uint32(1000+n)))
	}
	order := b.d.order()
	for n := range order {
		k := order[len(order)-1-n]
		b.reply(t, api.Message{Reply: k.port, ID: k.id}, answer(n))
	}
	for n, k := range order {
		b.take(t, ask(78, uint32(n)))
		if _, ok := b.d.facts[k]; ok {
			t.Fatalf("the model has not forgotten %v", k)
		}
		c := *b.s
		c.Reply(ask(78, uint32(n)), answer(n))
		if s, r, e := c.Take(api.Message{Reply: k.port, ID: k.id}); s != New || !same(r, api.Message{}) || e != nil {
			t.Fatalf("the request %v, forgotten: %v, %v, %v; want New", k, s, r, e)
		}
	}
}

// ask is a request with other fields that hang on what it is told by.
func ask(port uint64, id uint32) api.Message {
	return api.Message{To: port + 3, Reply: port, ID: id, Op: uint16(id), Cap: api.Cap{Port: port, Object: id}, Arg: uint64(id) * 3, Data: []byte(fmt.Sprint("ask ", id))}
}

// answer is a reply that is told from others by a number.
func answer(n int) api.Message {
	return api.Message{To: 3, Reply: 9, ID: uint32(n), Op: 9, Status: uint16(n % 5), Cap: api.Cap{Check: uint64(n)}, Arg: uint64(n) * 7, Data: []byte(fmt.Sprint("answer ", n))}
}

// takes has a Take of a request answer a state alone.
func takes(t *testing.T, s *Served, m api.Message, want State, fault api.Errno) {
	t.Helper()
	if x, r, e := s.Take(m); x != want || !same(r, api.Message{}) || !tells(e, fault) {
		t.Fatalf("Take(%v): %v, %v, %v; want %v, %v", m, x, r, e, want, fault)
	}
}

// again has a Take of a request answer its reply.
func again(t *testing.T, s *Served, m, want api.Message) {
	t.Helper()
	if x, r, e := s.Take(m); x != Again || !same(r, want) || e != nil {
		t.Fatalf("Take(%v): %v, %v, %v; want %v", m, x, r, e, want)
	}
}

// counts has a Served remember so many.
func counts(t *testing.T, s *Served, want int) {
	t.Helper()
	if got := s.Len(); got != want {
		t.Fatalf("Len %d; want %d", got, want)
	}
}

// fill has so many requests come, of the ports 20 to 22 in turn, with IDs from 0 on; those that has chooses are answered.
func fill(t *testing.T, many int, has func(k int) bool) pair {
	t.Helper()
	a := fresh()
	for k := range many {
		a.take(t, nth(k))
	}
	for k := range many {
		if has(k) {
			a.reply(t, nth(k), answer(k))
		}
	}
	return a
}

// nth is a request of fill's.
func nth(k int) api.Message { return ask(uint64(20+k%3), uint32(k)) }

func none(int) bool { return false }
func all(int) bool  { return true }

// P22.1, P22.2: the chapter's example.
func TestExample(t *testing.T) {
	var s Served
	counts(t, &s, 0)
	takes(t, &s, ask(1, 1), New, 0)
	counts(t, &s, 1)
	takes(t, &s, ask(1, 1), Busy, 0)
	if !s.Reply(ask(1, 1), answer(4)) {
		t.Fatal("the first reply is not taken")
	}
	again(t, &s, ask(1, 1), answer(4))
	if s.Reply(ask(1, 1), answer(5)) {
		t.Fatal("a second reply is taken")
	}
	again(t, &s, ask(1, 1), answer(4))
	counts(t, &s, 1)
}

// P22.1: the states are numbers from 0 on, and 0 is New.
func TestStates(t *testing.T) {
	if New != 0 || Busy != 1 || Again != 2 {
		t.Error(New, Busy, Again)
	}
}

// P22.1, P22.2: a zero Served remembers nothing: each request is new to it, and none has a reply coming.
func TestZero(t *testing.T) {
	for _, port := range ports {
		for _, id := range ids {
			a := fresh()
			a.look(t, "nothing")
			a.refuses(t, ask(port, id), answer(1))
			a.refuses(t, ask(port, id), api.Message{})
			takes(t, a.twin().s, ask(port, id), New, 0)
			a.take(t, ask(port, id))
			a.take(t, ask(port, id))
			a.reply(t, ask(port, id), answer(1))
			a.take(t, ask(port, id))
		}
	}
	var s Served
	counts(t, &s, 0)
	if s.Reply(api.Message{}, api.Message{}) {
		t.Error("a zero request is remembered")
	}
	takes(t, &s, api.Message{}, New, 0)
	takes(t, &s, api.Message{}, Busy, 0)
	counts(t, &s, 1)
}

// P22.1, P22.2: several requests that are new, busy, answered and come again, mixed; replies come in another order than the requests.
func TestMixed(t *testing.T) {
	var s Served
	for id := uint32(1); id <= 5; id++ {
		takes(t, &s, ask(1, id), New, 0)
		counts(t, &s, int(id))
	}
	for n, id := range []uint32{4, 1, 5} {
		takes(t, &s, ask(1, id), Busy, 0)
		if !s.Reply(ask(1, id), answer(n)) {
			t.Fatal("it was busy")
		}
		again(t, &s, ask(1, id), answer(n))
		counts(t, &s, 5)
	}
	takes(t, &s, ask(1, 2), Busy, 0)
	takes(t, &s, ask(1, 3), Busy, 0)
	takes(t, &s, ask(1, 6), New, 0)
	counts(t, &s, 6)
	for n, id := range []uint32{6, 3, 2} {
		if !s.Reply(ask(1, id), answer(10+n)) {
			t.Fatal("it was busy")
		}
	}
	for n, id := range []uint32{4, 1, 5} {
		again(t, &s, ask(1, id), answer(n))
	}
	for n, id := range []uint32{6, 3, 2} {
		again(t, &s, ask(1, id), answer(10+n))
	}
	counts(t, &s, 6)
}

// P22.1, P22.2: requests of one port with several IDs, of one ID with several ports, and crosswise, are all told apart; Len counts each once.
func TestApart(t *testing.T) {
	byID, byPort := fresh(), fresh()
	for n, id := range ids {
		byID.take(t, ask(5, id))
		byID.take(t, ask(5, id))
		counts(t, byID.s, n+1)
	}
	for n, port := range ports {
		byPort.take(t, ask(port, 5))
		byPort.take(t, ask(port, 5))
		counts(t, byPort.s, n+1)
	}
	for n := range ids {
		byID.reply(t, ask(5, ids[len(ids)-1-n]), answer(n))
	}
	for n := range ports {
		byPort.reply(t, ask(ports[(n*8)%len(ports)], 5), answer(n))
	}
	byID.drain(t)
	byPort.drain(t)
	cross := fresh()
	for _, port := range []uint64{0, 1, 5, math.MaxUint64} {
		for _, id := range []uint32{0, 1, 5, math.MaxUint32} {
			cross.take(t, ask(port, id))
		}
	}
	counts(t, cross.s, 16)
	for n, port := range []uint64{5, 0, math.MaxUint64, 1} {
		for _, id := range []uint32{1, math.MaxUint32, 5, 0} {
			cross.reply(t, ask(port, id), answer(n*100+int(id%50)))
		}
	}
	cross.drain(t)
}

// P22.1, P22.2: one bit of the port, or of the ID, that is another makes another request.
func TestBits(t *testing.T) {
	for _, port := range []uint64{0, 5, api.Word, math.MaxUint64} {
		for _, id := range []uint32{0, 5, math.MaxUint32} {
			a := fresh()
			a.take(t, ask(port, id))
			for bit := range 64 {
				a.refuses(t, ask(port^1<<bit, id), answer(bit))
				takes(t, a.twin().s, ask(port^1<<bit, id), New, 0)
			}
			for bit := range 32 {
				a.refuses(t, ask(port, id^1<<bit), answer(bit))
				takes(t, a.twin().s, ask(port, id^1<<bit), New, 0)
			}
			counts(t, a.s, 1)
			a.reply(t, ask(port, id), answer(99))
			again(t, a.s, ask(port, id), answer(99))
			for bit := range 32 {
				takes(t, a.twin().s, ask(port^1<<bit, id), New, 0)
				takes(t, a.twin().s, ask(port, id^1<<bit), New, 0)
			}
		}
	}
}

// strange is messages whose fields are at their edges, also such as may not be by layer 4.
func strange() []api.Message {
	full := api.Cap{Port: math.MaxUint64, Object: math.MaxUint32, Rights: math.MaxUint8, Check: math.MaxUint64}
	ms := []api.Message{
		{},
		{Data: []byte{}},
		{Data: []byte{0}},
		{Data: bytes.Repeat([]byte{255}, api.MaxData)},
		{Data: bytes.Repeat([]byte{7}, api.MaxData+1)},
		{Data: bytes.Repeat([]byte{1, 2, 3}, 30_000)},
		{Cap: api.Cap{Port: 1, Object: 2, Rights: 3, Check: 4}},
		{Cap: full},
		{To: math.MaxUint64, Reply: math.MaxUint64, ID: math.MaxUint32, Op: math.MaxUint16, Status: math.MaxUint16, Cap: full, Arg: math.MaxUint64, Data: []byte("all")},
		{Cap: api.Cap{Object: api.Objects}},
	}
	for _, n := range []uint64{1, api.Word, api.Word + 1, 1 << 63} {
		ms = append(ms, api.Message{To: n}, api.Message{Reply: n}, api.Message{Arg: n}, api.Message{ID: uint32(n | 1)}, api.Message{Op: uint16(n | 1)}, api.Message{Status: uint16(n | 1)})
		ms = append(ms, api.Message{Cap: api.Cap{Port: n}}, api.Message{Cap: api.Cap{Object: uint32(n | 1)}}, api.Message{Cap: api.Cap{Rights: uint8(n | 1)}}, api.Message{Cap: api.Cap{Check: n}})
	}
	return ms
}

// P22.1, P22.2: requests that differ in anything but their Reply and ID are one request.
func TestOneRequest(t *testing.T) {
	for _, k := range []key{{5, 6}, {0, 0}, {math.MaxUint64, math.MaxUint32}} {
		for n, first := range strange() {
			for _, other := range strange() {
				first.Reply, first.ID = k.port, k.id
				other.Reply, other.ID = k.port, k.id
				var s Served
				takes(t, &s, first, New, 0)
				takes(t, &s, other, Busy, 0)
				counts(t, &s, 1)
				if !s.Reply(other, answer(n)) || s.Reply(first, answer(n+1)) {
					t.Fatalf("%v and %v are two", first, other)
				}
				again(t, &s, first, answer(n))
				again(t, &s, other, answer(n))
				counts(t, &s, 1)
			}
		}
	}
}

// P22.1, P22.2: any message whatever may be a request.
func TestAnyRequest(t *testing.T) {
	a := fresh()
	for n, m := range strange() {
		a.take(t, m)
		a.take(t, m)
		a.reply(t, m, answer(n))
		a.take(t, m)
		a.refuses(t, m, answer(n+1))
	}
	a.drain(t)
}

// P22.1, P22.2: any message whatever may be a reply, to the request's port or not, and is told as it was; a zero one is a reply too.
func TestAnyReply(t *testing.T) {
	a := fresh()
	for n, r := range strange() {
		m := ask(1, uint32(n))
		a.take(t, m)
		a.reply(t, m, r)
		again(t, a.s, m, r)
		a.refuses(t, m, answer(n))
		a.refuses(t, m, api.Message{})
		again(t, a.s, m, r)
	}
	a.drain(t)
}

// P22.1, P22.2: a request whose reply is a zero message has a reply: it is told Again, is not answered once more, and may be forgotten.
func TestZeroReply(t *testing.T) {
	a := fill(t, 32, none)
	a.reply(t, nth(7), api.Message{})
	again(t, a.s, nth(7), api.Message{})
	a.refuses(t, nth(7), answer(1))
	again(t, a.s, nth(7), api.Message{})
	takes(t, a.twin().s, ask(5, 50), New, 0)
	a.take(t, ask(5, 50))
	takes(t, a.s, nth(7), New, api.ErrFull)
}

// P22.1, P22.2: a reply that says an error is a reply as any other, and no error is told beside it.
func TestReplyOfFault(t *testing.T) {
	for status := range uint16(20) {
		var s Served
		takes(t, &s, ask(1, 2), New, 0)
		if !s.Reply(ask(1, 2), api.Message{Status: status}) {
			t.Fatal(status)
		}
		again(t, &s, ask(1, 2), api.Message{Status: status})
	}
}

// P22.1: the 32nd is remembered; where none has a reply one more is New, a zero message and ErrFull, and nothing changes.
func TestFull(t *testing.T) {
	a := fresh()
	for k := range 32 {
		counts(t, a.s, k)
		takes(t, a.twin().s, nth(k), New, 0)
		a.take(t, nth(k))
	}
	counts(t, a.s, 32)
	for range 2 {
		for _, m := range append(strange(), ask(20, 1), nth(32), ask(20, math.MaxUint32)) {
			takes(t, a.s, m, New, api.ErrFull)
			a.look(t, "a Take that was refused")
			a.refuses(t, m, answer(1))
			takes(t, a.s, m, New, api.ErrFull)
		}
	}
	for k := range 32 {
		takes(t, a.s, nth(k), Busy, 0)
	}
	a.drain(t)
	a.reply(t, nth(31), answer(31))
	takes(t, a.twin().s, nth(32), New, 0)
}

// P22.1: with room for one more nothing is forgotten, though all have replies.
func TestRoom(t *testing.T) {
	for many := range 32 {
		a := fill(t, many, all)
		takes(t, a.twin().s, nth(many), New, 0)
		a.take(t, nth(many))
		counts(t, a.s, many+1)
		for k := range many {
			again(t, a.s, nth(k), answer(k))
		}
		takes(t, a.s, nth(many), Busy, 0)
	}
}

// P22.1: where one alone has a reply it is forgotten, wherever it stands; the others stay, and the new one has no reply.
func TestForgetsOne(t *testing.T) {
	for at := range 32 {
		a := fill(t, 32, func(k int) bool { return k == at })
		takes(t, a.twin().s, ask(5, 50), New, 0)
		a.take(t, ask(5, 50))
		counts(t, a.s, 32)
		for k := range 32 {
			if k != at {
				takes(t, a.s, nth(k), Busy, 0)
			}
		}
		takes(t, a.s, ask(5, 50), Busy, 0)
		takes(t, a.s, nth(at), New, api.ErrFull)
		takes(t, a.s, ask(5, 51), New, api.ErrFull)
		a.refuses(t, nth(at), answer(1))
		a.drain(t)
	}
}

// P22.1: where several have replies the first of them is forgotten, by when the request came, not by when its reply did; the other replies stay.
func TestForgetsFirst(t *testing.T) {
	for first := range 32 {
		for second := first + 1; second < 32; second++ {
			a := fill(t, 32, none)
			a.reply(t, nth(second), answer(second))
			a.reply(t, nth(first), answer(first))
			takes(t, a.s, ask(5, 50), New, 0)
			again(t, a.s, nth(second), answer(second))
			takes(t, a.s, ask(5, 51), New, 0)
			takes(t, a.s, ask(5, 52), New, api.ErrFull)
			takes(t, a.s, nth(first), New, api.ErrFull)
			takes(t, a.s, nth(second), New, api.ErrFull)
			counts(t, a.s, 32)
			for k := range 32 {
				if k != first && k != second {
					takes(t, a.s, nth(k), Busy, 0)
				}
			}
			takes(t, a.s, ask(5, 50), Busy, 0)
			takes(t, a.s, ask(5, 51), Busy, 0)
		}
	}
}

// P22.1: a new one is behind all: it is forgotten behind those that came ahead, though its reply came first.
func TestBehindAll(t *testing.T) {
	var s Served
	for k := range 32 {
		takes(t, &s, nth(k), New, 0)
	}
	s.Reply(nth(10), answer(10))
	takes(t, &s, ask(5, 50), New, 0)
	s.Reply(ask(5, 50), answer(50))
	s.Reply(nth(31), answer(31))
	s.Reply(nth(0), answer(0))
	for _, c := range []struct {
		gone  api.Message
		fault api.Errno // of the one that is gone, when it comes again
	}{{nth(0), 0}, {nth(31), 0}, {ask(5, 50), api.ErrFull}} {
		if x, _, _ := s.Take(c.gone); x != Again {
			t.Fatalf("%v was forgotten too soon", c.gone)
		}
		takes(t, &s, ask(6, c.gone.ID), New, 0)
		copied := s
		takes(t, &copied, c.gone, New, c.fault)
	}
	counts(t, &s, 32)
}

// P22.1: asking for a request again does not bring it behind the others, nor does its reply.
func TestStays(t *testing.T) {
	for at := range 32 {
		a := fill(t, 32, func(k int) bool { return k%2 == 0 || k == at })
		for range 3 {
			a.take(t, nth(at))
		}
		a.refuses(t, nth(at), answer(1))
		a.drain(t)
		for k := range 32 {
			if k%2 == 0 || k == at {
				again(t, a.s, nth(k), answer(k))
				takes(t, a.s, ask(5, uint32(k)), New, 0)
				if x, r, _ := a.twin().s.Take(nth(k)); x != New {
					t.Fatalf("the request %d is not forgotten: %v, %v", k, x, r)
				}
			}
		}
		takes(t, a.s, ask(5, 99), New, api.ErrFull)
	}
}

// P22.1: one that is remembered, while 32 are, is Busy or Again, and nothing is forgotten by it.
func TestRememberedWhileFull(t *testing.T) {
	for _, has := range []func(int) bool{none, all, func(k int) bool { return k%2 == 1 }, func(k int) bool { return k == 31 }} {
		a := fill(t, 32, has)
		for range 3 {
			for k := range 32 {
				a.take(t, nth(k))
				counts(t, a.s, 32)
				if has(k) {
					again(t, a.s, nth(k), answer(k))
				} else {
					takes(t, a.s, nth(k), Busy, 0)
				}
			}
		}
		a.drain(t)
	}
}

// P22.1, P22.2: a request that was forgotten and comes again is New, stands behind all, and has no reply, till one comes.
func TestForgottenComesAgain(t *testing.T) {
	for at := range 32 {
		a := fill(t, 32, func(k int) bool { return k == at })
		a.take(t, ask(5, 50))
		a.refuses(t, nth(at), answer(2))
		a.reply(t, nth((at+1)%32), answer(3))
		takes(t, a.twin().s, nth(at), New, 0)
		a.take(t, nth(at))
		takes(t, a.s, nth(at), Busy, 0)
		takes(t, a.s, nth((at+1)%32), New, api.ErrFull)
		a.drain(t)
		a.reply(t, nth(at), answer(4))
		again(t, a.s, nth(at), answer(4))
		a.drain(t)
	}
}

// P22.1: a long row of requests, each answered at once: 32 are remembered at a time, the last ones that came.
func TestLongRow(t *testing.T) {
	var s Served
	for k := range 500 {
		takes(t, &s, nth(k), New, 0)
		if !s.Reply(nth(k), answer(k)) {
			t.Fatal(k)
		}
		counts(t, &s, min(k+1, 32))
		for n := max(0, k-31); n <= k; n++ {
			again(t, &s, nth(n), answer(n))
		}
		if k >= 32 {
			copied := s
			takes(t, &copied, nth(k-32), New, 0)
		}
	}
}

// P22.1, P22.2: one that waits for its reply stays remembered while any number of others come and go.
func TestBusyStays(t *testing.T) {
	var s Served
	for id := range uint32(4) {
		takes(t, &s, ask(1, id), New, 0)
	}
	for k := range 500 {
		takes(t, &s, nth(k), New, 0)
		s.Reply(nth(k), answer(k))
		for id := range uint32(4) {
			takes(t, &s, ask(1, id), Busy, 0)
		}
	}
	for id := range uint32(4) {
		if !s.Reply(ask(1, id), answer(int(id))) {
			t.Fatal(id)
		}
		again(t, &s, ask(1, id), answer(int(id)))
	}
	takes(t, &s, ask(2, 0), New, 0)
	again(t, &s, ask(1, 1), answer(1))
	takes(t, &s, ask(1, 0), New, 0)
}

// P22.2: a request that is not remembered, that was forgotten, or that was refused, has no reply coming, and nothing changes.
func TestReplyRefused(t *testing.T) {
	for _, many := range []int{0, 1, 2, 31, 32} {
		for _, has := range []func(int) bool{none, all, func(k int) bool { return k%2 == 0 }} {
			a := fill(t, many, has)
			for _, m := range append(strange(), ask(20, 1), ask(21, 0), nth(many), nth(many+1)) {
				a.refuses(t, m, answer(1))
				a.refuses(t, m, api.Message{})
			}
			for k := range many {
				a.refuses(t, api.Message{To: nth(k).Reply, Reply: nth(k).To, ID: nth(k).ID}, answer(1))
				a.refuses(t, api.Message{To: nth(k).Reply, ID: nth(k).ID + 100}, answer(1))
			}
			a.drain(t)
		}
	}
	a := fill(t, 32, none)
	a.take(t, ask(5, 50))
	a.refuses(t, ask(5, 50), answer(1))
	takes(t, a.s, ask(5, 50), New, api.ErrFull)
	a.reply(t, nth(3), answer(3))
	a.take(t, ask(5, 51))
	a.refuses(t, ask(5, 50), answer(1))
	a.refuses(t, nth(3), answer(4))
	takes(t, a.s, ask(5, 51), Busy, 0)
	a.drain(t)
}

// P22.2: what is answered is m's request, not one that the reply's own Reply and ID name.
func TestReplyOfOther(t *testing.T) {
	a := fresh()
	a.take(t, ask(1, 1))
	a.take(t, ask(2, 2))
	a.refuses(t, ask(3, 3), ask(1, 1))
	a.reply(t, ask(2, 2), ask(1, 1))
	takes(t, a.s, ask(1, 1), Busy, 0)
	again(t, a.s, ask(2, 2), ask(1, 1))
	a.reply(t, ask(1, 1), ask(3, 3))
	takes(t, a.s, ask(3, 3), New, 0)
}

// P22.2: one that has a reply already keeps it, whatever comes behind.
func TestReplyTwice(t *testing.T) {
	a := fill(t, 6, func(k int) bool { return k != 2 })
	for range 2 {
		for k := range 6 {
			if k == 2 {
				continue
			}
			for _, r := range append(strange(), answer(k), answer(9)) {
				a.refuses(t, nth(k), r)
			}
			again(t, a.s, nth(k), answer(k))
		}
	}
	takes(t, a.s, nth(2), Busy, 0)
	a.reply(t, nth(2), answer(2))
	a.refuses(t, nth(2), answer(3))
	a.drain(t)
}

// scrawl writes into all of a message's data, and into what memory lies behind it.
func scrawl(ms ...api.Message) {
	for _, m := range ms {
		data := m.Data[:cap(m.Data)]
		for k := range data {
			data[k] = '#'
		}
	}
}

// W6: no reply is changed by one who later writes into what was handed in, and nothing is written into that, nor behind it.
func TestHandedIn(t *testing.T) {
	a := fresh()
	memory, asked := []byte("abcdefghijkl"), []byte("mnopqrstuvwx")
	request := func(k int) api.Message {
		return api.Message{Reply: 1, ID: uint32(k), Data: asked[3*k : 3*k+3]}
	}
	for k := range 4 {
		a.take(t, request(k))
	}
	for k := range 4 {
		a.reply(t, request(k), api.Message{Arg: uint64(k), Data: memory[3*k : 3*k+3]})
	}
	if string(memory) != "abcdefghijkl" || string(asked) != "mnopqrstuvwx" {
		t.Fatalf("the memory handed in is %q, %q", memory, asked)
	}
	for k := range memory {
		memory[k], asked[k] = '#', '#'
	}
	for k := range 4 {
		again(t, a.s, ask(1, uint32(k)), api.Message{Arg: uint64(k), Data: []byte("abcdefghijkl")[3*k : 3*k+3]})
	}
	a.look(t, "writing into what was handed in")
	a.drain(t)
}

// W6: a Reply that is false, and a Take that is ErrFull, keep nothing.
func TestNotKept(t *testing.T) {
	a := fill(t, 32, none)
	m := ask(5, 50)
	a.take(t, m)
	scrawl(m)
	m, r := ask(5, 50), answer(1)
	a.refuses(t, m, r)
	scrawl(m, r)
	a.reply(t, nth(3), answer(3))
	r = answer(4)
	a.refuses(t, nth(3), r)
	scrawl(r)
	again(t, a.s, nth(3), answer(3))
	a.drain(t)
}

// W6: what Take answers is new memory each time: neither another answer, nor the Served, nor what was handed in has it; elder answers stay as they were.
func TestRepliesNew(t *testing.T) {
	var s Served
	r := answer(1)
	for id := range uint32(2) {
		takes(t, &s, ask(1, id), New, 0)
		if !s.Reply(ask(1, id), r) {
			t.Fatal(id)
		}
	}
	first := alike(r)
	var held, kept []api.Message
	for range 4 {
		for id := range uint32(2) {
			_, elder, _ := s.Take(ask(1, id))
			_, got, _ := s.Take(ask(1, id))
			if !same(elder, first) || !same(got, first) {
				t.Fatal(elder, got)
			}
			scrawl(got)
			_ = append(got.Data, "behind it"...)
			held, kept = append(held, got), append(kept, elder)
		}
		if !same(r, first) {
			t.Fatal("what was handed in has changed")
		}
	}
	scrawl(r)
	for k := range 40 {
		s.Take(nth(k))
		s.Reply(nth(k), answer(k))
	}
	for k := range held {
		if !bytes.Equal(held[k].Data, []byte("########")) || !same(kept[k], first) {
			t.Fatalf("the answers %d have changed: %v, %v", k, held[k], kept[k])
		}
	}
}

// W6: an answer stays as it was when its request is forgotten, and another one has its place.
func TestElderAnswers(t *testing.T) {
	a := fill(t, 32, all)
	var held []api.Message
	for k := range 32 {
		_, r, _ := a.s.Take(nth(k))
		held = append(held, r)
	}
	for k := range 40 {
		a.take(t, ask(5, uint32(k)))
		a.reply(t, ask(5, uint32(k)), answer(100+k))
	}
	for k, r := range held {
		if !same(r, answer(k)) {
			t.Fatalf("the answer %d has changed: %v", k, r)
		}
		scrawl(r)
	}
	a.look(t, "writing into elder answers")
}

// W2: two Serveds do not know of each other, and a copy is one of its own.
func TestTwo(t *testing.T) {
	a, b := fresh(), fresh()
	a.take(t, ask(1, 1))
	b.look(t, "a Take of the other one")
	b.refuses(t, ask(1, 1), answer(1))
	b.take(t, ask(1, 1))
	a.reply(t, ask(1, 1), answer(1))
	b.look(t, "a Reply of the other one")
	b.take(t, ask(1, 1))
	b.reply(t, ask(1, 1), answer(2))
	a.look(t, "a Reply of the other one")
	again(t, a.s, ask(1, 1), answer(1))
	again(t, b.s, ask(1, 1), answer(2))
}

// steps is calls on what fill makes, and on what these leave.
func steps(t *testing.T) []func(a pair) {
	return []func(a pair){
		func(a pair) { a.take(t, nth(0)) },
		func(a pair) { a.take(t, nth(1)) },
		func(a pair) { a.take(t, ask(5, 50)) },
		func(a pair) { a.take(t, ask(5, 51)) },
		func(a pair) { a.reply(t, nth(0), answer(60)) },
		func(a pair) { a.reply(t, nth(1), api.Message{}) },
		func(a pair) { a.reply(t, ask(5, 50), answer(62)) },
		func(a pair) { a.reply(t, nth(31), answer(63)) },
	}
}

// W2: what is called of a Served is not seen in a copy of it, nor is what is written into what one answers.
func TestCopy(t *testing.T) {
	for _, many := range []int{0, 1, 2, 31, 32} {
		for _, has := range []func(int) bool{none, func(k int) bool { return k%2 == 0 }} {
			start := fill(t, many, has)
			for _, one := range steps(t) {
				for _, other := range steps(t) {
					a := start.twin()
					one(a)
					b := a.twin()
					one(b)
					other(b)
					other(a)
					one(a)
					a.look(t, "the steps of both")
					b.look(t, "the steps of both")
				}
			}
			start.look(t, "the steps of its copies")
		}
	}
	a := fill(t, 9, all)
	b := a.twin()
	for k := range 9 {
		_, r, _ := b.s.Take(nth(k))
		scrawl(r)
	}
	a.look(t, "writing into what a copy answers")
	b.look(t, "writing into what it answers")
}

// P22.1, P22.2: each run of five of the steps from nothing, and of four of them from many requests, or as many as there may be, without replies and with some.
func TestRuns(t *testing.T) {
	run := func(start pair, length, drains int) {
		all := steps(t)
		n, runs := len(all), 1
		for range length {
			runs *= n
		}
		for r := range runs {
			a := start.twin()
			for rest, k := r, 0; k < length; rest, k = rest/n, k+1 {
				all[rest%n](a)
			}
			if r%drains == 0 {
				a.drain(t)
			}
		}
	}
	run(fresh(), 5, 101)
	for _, many := range []int{30, 31, 32} {
		run(fill(t, many, none), 4, 31)
		run(fill(t, many, func(k int) bool { return k == 1 || k == 30 }), 3, 7)
	}
}

// strew is a source of numbers below n.
func strew(seed uint64) func(n int) int {
	state := seed + 22
	return func(n int) int {
		state = state*6364136223846793005 + 1442695040888963407
		return int(state>>33) % n
	}
}

// P22.1, P22.2: long strewn runs of both calls, over few and over many requests, with few and with many replies.
func TestStrewn(t *testing.T) {
	told := map[State]int{}
	full, forgotten, taken, refused := 0, 0, 0, 0
	for seed := range uint64(120) {
		draw := strew(seed)
		a := fresh()
		ids, replies := 2+draw(25), 1+draw(6)
		for step := range 200 {
			m := ask(uint64(draw(3)), uint32(draw(ids)))
			m.Op, m.Data = uint16(draw(9)), m.Data[:draw(4)]
			if draw(8) < replies {
				if a.twin().d.reply(m, api.Message{}) {
					taken++
				} else {
					refused++
				}
				a.reply(t, m, answer(step))
				continue
			}
			state, _, fault := a.twin().d.take(m)
			told[state]++
			if fault == api.ErrFull {
				full++
			} else if state == New && len(a.d.facts) == 32 {
				forgotten++
			}
			a.take(t, m)
		}
		a.drain(t)
	}
	if told[New] < 1000 || told[Busy] < 1000 || told[Again] < 1000 || full < 300 || forgotten < 300 || taken < 1000 || refused < 1000 {
		t.Errorf("%v were told; %d times no room, %d were forgotten; %d replies were taken, %d were not", told, full, forgotten, taken, refused)
	}
}
