package client

import (
	"bytes"
	"errors"
	"fmt"
	"math"
	"reflect"
	"testing"

	"sigillum/api"
)

// The edges of ports, of numbers of calls, and of how long and how often; among them such as are the same in their lower bits, and such as have a product that goes round.
var (
	ports   = []uint64{0, 1, 5, 7, 255, 256, 256 + 7, 1 << 16, 1<<16 + 5, 1 << 32, 1<<32 + 5, api.Word - 1, api.Word, api.Word + 1, api.Word + 8, 1 << 63, 1<<63 + 7, math.MaxInt64, math.MaxUint64 - 1, math.MaxUint64}
	numbers = []uint32{0, 1, 2, 3, 63, 64, 65, 66, 127, 128, 255, 256, 257, 1 << 16, 1<<16 + 1, math.MaxInt32, 1 << 31, 1<<31 + 1, math.MaxUint32 - 1, math.MaxUint32}
	counts  = []int{math.MinInt, math.MinInt + 1, math.MinInt32, -64, -2, -1, 0, 1, 2, 3, 4, 64, 256, math.MaxInt32, 1 << 32, 1<<32 + 1, 1 << 62, math.MaxInt - 1, math.MaxInt}
)

// entry is a call of the model: when it began, and whether it was answered.
type entry struct {
	request, reply api.Message
	at             int
	answered       bool
}

// model knows at which tick each call began; how often it was sent, and whether it has failed, it works out of that anew each time.
type model struct {
	port             uint64
	wait, tries, now int
	calls            []entry
}

func (d *model) start(m api.Message) (api.Message, api.Errno) {
	if len(d.calls) == 64 {
		return api.Message{}, api.ErrFull
	}
	q := api.Message{To: m.To, Reply: d.port, ID: uint32(len(d.calls)) + 1, Op: m.Op, Cap: m.Cap, Arg: m.Arg, Data: alike(m).Data}
	d.calls = append(d.calls, entry{request: q, at: d.now})
	return alike(q), 0
}

// rounds is how many times wait ticks have gone by since a call began.
func (d *model) rounds(w entry) int { return (d.now - w.at) / d.wait }

func (d *model) state(id uint32) State {
	if id == 0 || int(id) > len(d.calls) {
		return None
	}
	w := d.calls[id-1]
	if w.answered {
		return Done
	}
	if d.rounds(w) >= d.tries {
		return Failed
	}
	return Waiting
}

func (d *model) answer(m api.Message) bool {
	if d.state(m.ID) != Waiting || m.To != d.port || m.Reply != d.calls[m.ID-1].request.To {
		return false
	}
	w := &d.calls[m.ID-1]
	w.answered, w.reply = true, alike(m)
	return true
}

func (d *model) tick() []api.Message {
	d.now++
	var again []api.Message
	for k, w := range d.calls {
		if d.state(uint32(k+1)) == Waiting && (d.now-w.at)%d.wait == 0 {
			again = append(again, alike(w.request))
		}
	}
	return again
}

func (d *model) get(id uint32) (State, api.Message, api.Errno) {
	switch s := d.state(id); s {
	case None:
		return s, api.Message{}, api.ErrNotFound
	case Failed:
		return s, api.Message{}, api.ErrTimeout
	case Done:
		return s, d.calls[id-1].reply, 0
	default:
		return s, api.Message{}, 0
	}
}

// alike is a message with memory of its own.
func alike(m api.Message) api.Message {
	m.Data = append([]byte(nil), m.Data...)
	return m
}

// same is whether two messages are the same; data without bytes is nil or empty, as one likes.
func same(a, b api.Message) bool {
	return a.To == b.To && a.Reply == b.Reply && a.ID == b.ID && a.Op == b.Op && a.Status == b.Status && a.Cap == b.Cap && a.Arg == b.Arg && bytes.Equal(a.Data, b.Data)
}

func sameRow(a, b []api.Message) bool {
	if len(a) != len(b) {
		return false
	}
	for k := range a {
		if !same(a[k], b[k]) {
			return false
		}
	}
	return true
}

// tells is whether an error is the one that is wanted; 0 is none.
func tells(e error, want api.Errno) bool {
	if want == 0 {
		return e == nil
	}
	return errors.Is(e, want)
}

// pair is a client and the model of it.
type pair struct {
	c *Client
	d *model
}

func fresh(port uint64, wait, tries int) pair {
	d := &model{port: port, wait: wait, tries: tries}
	if wait < 1 {
		d.wait = 1
	}
	if tries < 1 {
		d.tries = 1
	}
	return pair{Of(port, wait, tries), d}
}

// look holds Len and Get against the model, twice: they change nothing.
func (a pair) look(t *testing.T, after string) {
	t.Helper()
	for range 2 {
		if got := a.c.Len(); got != len(a.d.calls) {
			t.Fatalf("after %s: Len %d; want %d", after, got, len(a.d.calls))
		}
		for k := range len(a.d.calls) + 2 {
			a.get(t, uint32(k), after)
		}
		for _, id := range numbers {
			a.get(t, id, after)
		}
	}
}

func (a pair) get(t *testing.T, id uint32, after string) {
	t.Helper()
	state, reply, fault := a.d.get(id)
	if s, r, e := a.c.Get(id); s != state || !same(r, reply) || !tells(e, fault) {
		t.Fatalf("after %s: Get(%d): %v, %v, %v; want %v, %v, %v", after, id, s, r, e, state, reply, fault)
	}
}

func (a pair) start(t *testing.T, m api.Message) {
	t.Helper()
	held := alike(m)
	want, fault := a.d.start(m)
	if got, e := a.c.Start(m); !same(got, want) || !tells(e, fault) {
		t.Fatalf("Start(%v): %v, %v; want %v, %v", m, got, e, want, fault)
	}
	if !same(m, held) {
		t.Fatalf("Start wrote into what was handed in: %v, it was %v", m, held)
	}
	a.look(t, "Start")
}

func (a pair) answer(t *testing.T, m api.Message) {
	t.Helper()
	held := alike(m)
	want := a.d.answer(m)
	if got := a.c.Answer(m); got != want {
		t.Fatalf("Answer(%v): %v; want %v", m, got, want)
	}
	if !same(m, held) {
		t.Fatalf("Answer wrote into what was handed in: %v, it was %v", m, held)
	}
	a.look(t, "Answer")
}

func (a pair) tick(t *testing.T) {
	t.Helper()
	want := a.d.tick()
	if got := a.c.Tick(); !sameRow(got, want) {
		t.Fatalf("the Tick to %d: %v; want %v", a.d.now, got, want)
	}
	a.look(t, "Tick")
}

func (a pair) ticks(t *testing.T, many int) {
	t.Helper()
	for range many {
		a.tick(t)
	}
}

// ask is a request to a port that is told from others by a number.
func ask(port uint64, n int) api.Message {
	return api.Message{To: port, Op: uint16(n), Cap: api.Cap{Port: port, Object: uint32(n)}, Arg: uint64(n) * 3, Data: []byte(fmt.Sprint("ask ", n))}
}

// reply is one from a port to another one, for a call's number.
func reply(from, to uint64, id uint32) api.Message {
	return api.Message{To: to, Reply: from, ID: id, Op: 9, Status: uint16(id % 5), Arg: uint64(id) * 7, Data: []byte(fmt.Sprint("reply ", id))}
}

// right is the reply that a call waits for, or has waited for.
func (a pair) right(id uint32) api.Message {
	return reply(a.d.calls[id-1].request.To, a.d.port, id)
}

// fill has so many calls begun, to the ports 20 to 22 in turn, one at a tick; some of them are answered.
func fill(t *testing.T, wait, tries, many int) pair {
	t.Helper()
	a := fresh(7, wait, tries)
	for k := range many {
		a.start(t, ask(uint64(20+k%3), k))
		if k%4 == 1 {
			a.answer(t, a.right(uint32(k+1)))
		}
		if k%2 == 1 {
			a.tick(t)
		}
	}
	return a
}

// has is whether a call is in a state, with nothing beside it but what belongs to that.
func has(t *testing.T, c *Client, id uint32, want State, fault api.Errno) {
	t.Helper()
	s, r, e := c.Get(id)
	if s != want || !tells(e, fault) || want != Done && !same(r, api.Message{}) {
		t.Fatalf("Get(%d): %v, %v, %v; want %v, %v", id, s, r, e, want, fault)
	}
}

// sends has a Tick send just the requests of these numbers again, in order.
func sends(t *testing.T, c *Client, want ...uint32) {
	t.Helper()
	var got []uint32
	for _, m := range c.Tick() {
		got = append(got, m.ID)
	}
	if len(got)+len(want) > 0 && !reflect.DeepEqual(got, want) {
		t.Fatalf("the requests %v are sent again; want %v", got, want)
	}
}

// begins has a call begin, of a number.
func begins(t *testing.T, c *Client, port uint64, id uint32) {
	t.Helper()
	if m, e := c.Start(ask(port, int(id))); e != nil || m.ID != id || m.To != port {
		t.Fatalf("Start: %v, %v; want the number %d", m, e, id)
	}
}

// P21.1, P21.3: the chapter's example.
func TestExample(t *testing.T) {
	c := Of(7, 2, 2)
	begins(t, c, 3, 1)
	sends(t, c)
	has(t, c, 1, Waiting, 0)
	sends(t, c, 1)
	has(t, c, 1, Waiting, 0)
	sends(t, c)
	has(t, c, 1, Waiting, 0)
	sends(t, c)
	has(t, c, 1, Failed, api.ErrTimeout)
	sends(t, c)
	has(t, c, 1, Failed, api.ErrTimeout)
}

// P21.1, P21.3: the states are numbers from 0 on, and 0 is None.
func TestStates(t *testing.T) {
	if None != 0 || Waiting != 1 || Done != 2 || Failed != 3 {
		t.Error(None, Waiting, Done, Failed)
	}
}

// P21.1, P21.2, P21.3: in a client without calls there is none to get, to answer or to send again.
func TestEmpty(t *testing.T) {
	for _, port := range ports {
		a := fresh(port, 1, 1)
		a.look(t, "Of")
		for _, id := range numbers {
			a.answer(t, reply(0, port, id))
			a.answer(t, reply(port, port, id))
		}
		a.answer(t, api.Message{})
		a.ticks(t, 3)
	}
}

// P21.1: the numbers are 1, 2, and on; the request is what was handed in, with the number, the reply port and the Status 0.
func TestStart(t *testing.T) {
	for _, port := range ports {
		c := Of(port, 3, 3)
		for k := range 64 {
			in := api.Message{To: uint64(k), Reply: port + 1, ID: uint32(1000 - k), Op: uint16(k), Status: uint16(k), Cap: api.Cap{Port: 1, Object: 2, Rights: 3, Check: 4}, Arg: uint64(k), Data: []byte{byte(k)}}
			want := api.Message{To: uint64(k), Reply: port, ID: uint32(k + 1), Op: uint16(k), Cap: api.Cap{Port: 1, Object: 2, Rights: 3, Check: 4}, Arg: uint64(k), Data: []byte{byte(k)}}
			if c.Len() != k {
				t.Fatalf("Len %d; want %d", c.Len(), k)
			}
			if got, e := c.Start(in); !same(got, want) || e != nil {
				t.Fatalf("Start: %v, %v; want %v", got, e, want)
			}
			has(t, c, uint32(k+1), Waiting, 0)
			has(t, c, uint32(k+2), None, api.ErrNotFound)
		}
	}
}

// P21.1, P21.3: how long and how often, each at all its edges: below 1 is 1; the greatest ones never end, and no product of both goes round.
func TestCounts(t *testing.T) {
	for _, wait := range counts {
		for _, tries := range counts {
			a := fresh(7, wait, tries)
			a.start(t, ask(3, 1))
			a.tick(t)
			a.start(t, ask(4, 2))
			a.ticks(t, 3)
			a.start(t, ask(3, 3))
			a.ticks(t, 13)
			a.answer(t, a.right(2))
			a.ticks(t, 3)
		}
	}
}

// P21.1: below 1 is as 1: of each of both by itself.
func TestBelowOne(t *testing.T) {
	for _, low := range []int{math.MinInt, math.MinInt32, -2, -1, 0, 1} {
		c := Of(7, low, 3)
		begins(t, c, 3, 1)
		sends(t, c, 1)
		sends(t, c, 1)
		sends(t, c)
		has(t, c, 1, Failed, api.ErrTimeout)
		c = Of(7, 3, low)
		begins(t, c, 3, 1)
		for range 3 {
			has(t, c, 1, Waiting, 0)
			sends(t, c)
		}
		has(t, c, 1, Failed, api.ErrTimeout)
		c = Of(7, low, low)
		begins(t, c, 3, 1)
		sends(t, c)
		has(t, c, 1, Failed, api.ErrTimeout)
	}
}

// P21.1, P21.3: the greatest numbers are kept whole: a call waits on, is sent again at each tick, or never.
func TestGreatest(t *testing.T) {
	c, d, e := Of(7, math.MaxInt, 1), Of(7, 1, math.MaxInt), Of(7, math.MaxInt, math.MaxInt)
	for _, x := range []*Client{c, d, e} {
		begins(t, x, 3, 1)
	}
	for range 70_000 {
		sends(t, c)
		sends(t, d, 1)
		sends(t, e)
	}
	for _, x := range []*Client{c, d, e} {
		has(t, x, 1, Waiting, 0)
		if !x.Answer(reply(3, 7, 1)) {
			t.Fatal("it waited no longer")
		}
		sends(t, x)
	}
}

// P21.3: with one try a call fails when it would be sent again first, and is never sent again.
func TestOneTry(t *testing.T) {
	for wait := 1; wait <= 70; wait++ {
		c := Of(7, wait, 1)
		begins(t, c, 3, 1)
		for range wait {
			has(t, c, 1, Waiting, 0)
			sends(t, c)
		}
		has(t, c, 1, Failed, api.ErrTimeout)
		for range 2*wait + 1 {
			sends(t, c)
			has(t, c, 1, Failed, api.ErrTimeout)
		}
	}
}

// P21.3: a call is sent tries times in all, by Start once, wait ticks apart, and fails wait ticks behind the last one.
func TestLastTry(t *testing.T) {
	for _, wait := range []int{1, 2, 3, 5, 8, 64, 300} {
		for _, tries := range []int{1, 2, 3, 5, 8, 64, 300} {
			c := Of(7, wait, tries)
			begins(t, c, 3, 1)
			for tick := 1; tick < wait*tries; tick++ {
				if tick%wait == 0 {
					sends(t, c, 1)
				} else {
					sends(t, c)
				}
				has(t, c, 1, Waiting, 0)
			}
			for range 3*wait + 1 {
				sends(t, c)
				has(t, c, 1, Failed, api.ErrTimeout)
			}
		}
	}
}

// P21.3: ticks count for a call only from when it began; ticks ahead of that do not.
func TestOwnTicks(t *testing.T) {
	for ahead := range 8 {
		c := Of(7, 3, 2)
		for range ahead {
			sends(t, c)
		}
		begins(t, c, 3, 1)
		sends(t, c)
		begins(t, c, 3, 2)
		sends(t, c)
		begins(t, c, 3, 3)
		begins(t, c, 3, 4)
		sends(t, c, 1)
		sends(t, c, 2)
		sends(t, c, 3, 4)
		has(t, c, 1, Waiting, 0)
		sends(t, c)
		has(t, c, 1, Failed, api.ErrTimeout)
		has(t, c, 2, Waiting, 0)
		sends(t, c)
		has(t, c, 2, Failed, api.ErrTimeout)
		has(t, c, 3, Waiting, 0)
		has(t, c, 4, Waiting, 0)
		sends(t, c)
		has(t, c, 3, Failed, api.ErrTimeout)
		has(t, c, 4, Failed, api.ErrTimeout)
	}
}

// P21.3: the requests that are sent again come by their numbers, whichever of them are answered.
func TestOrder(t *testing.T) {
	for choice := range 1 << 6 {
		c := Of(7, 1, 3)
		var left []uint32
		for k := range uint32(6) {
			begins(t, c, uint64(100-k), k+1)
		}
		for k := range uint32(6) {
			id := 6 - k
			if choice>>(id-1)&1 == 1 && !c.Answer(reply(uint64(101-id), 7, id)) {
				t.Fatal("it did not wait")
			}
		}
		for id := uint32(1); id <= 6; id++ {
			if choice>>(id-1)&1 == 0 {
				left = append(left, id)
			}
		}
		sends(t, c, left...)
		sends(t, c, left...)
		sends(t, c)
	}
}

// P21.3: all 64 calls are sent again at one tick, in order.
func TestAllAgain(t *testing.T) {
	a := fresh(7, 2, 3)
	var all []uint32
	for k := range 64 {
		a.start(t, ask(uint64(k%5), k))
		all = append(all, uint32(k+1))
	}
	b := a.twin()
	sends(t, b.c)
	sends(t, b.c, all...)
	sends(t, b.c)
	sends(t, b.c, all...)
	sends(t, b.c)
	sends(t, b.c)
	a.ticks(t, 8)
}

// P21.1, P21.2, P21.3: several calls that begin at different ticks, are sent again, answered, and fail, mixed.
func TestMixed(t *testing.T) {
	for wait := 1; wait <= 5; wait++ {
		for tries := 1; tries <= 5; tries++ {
			a := fresh(7, wait, tries)
			a.start(t, ask(3, 1))
			a.start(t, ask(4, 2))
			a.tick(t)
			a.start(t, ask(3, 3))
			if a.d.state(2) == Waiting {
				a.answer(t, a.right(2))
			}
			a.ticks(t, 2)
			a.start(t, ask(5, 4))
			a.answer(t, a.right(3))
			a.tick(t)
			a.start(t, ask(5, 5))
			a.answer(t, a.right(5))
			a.ticks(t, wait)
			a.answer(t, a.right(4))
			a.answer(t, a.right(1))
			a.ticks(t, wait*tries+2)
			a.start(t, ask(6, 6))
			a.ticks(t, wait*tries+2)
		}
	}
}

// P21.1: the 64th call begins, the 65th is ErrFull, and nothing changes, whether calls are Waiting, Done or Failed.
func TestFull(t *testing.T) {
	for _, how := range []string{"waiting", "done", "failed", "mixed"} {
		a := fresh(7, 2, 2)
		for k := range 64 {
			a.start(t, ask(uint64(k), k))
			if how == "done" || how == "mixed" && k%3 == 0 {
				a.answer(t, a.right(uint32(k+1)))
			}
			if how == "mixed" && k == 40 || how == "failed" && k == 63 {
				a.ticks(t, 4)
			}
		}
		for range 3 {
			for _, m := range append(strange(), ask(0, 1), ask(7, 1)) {
				if got, e := a.c.Start(m); !same(got, api.Message{}) || !errors.Is(e, api.ErrFull) {
					t.Fatalf("%s: the 65th: %v, %v; want ErrFull", how, got, e)
				}
			}
			a.start(t, ask(3, 65))
			has(t, a.c, 65, None, api.ErrNotFound)
			a.answer(t, reply(3, 7, 65))
			a.tick(t)
		}
		for id := range uint32(66) {
			a.answer(t, reply(uint64(id)-1, 7, id))
		}
		a.start(t, ask(3, 66))
		a.ticks(t, 5)
		a.start(t, ask(3, 67))
	}
}

// P21.2: a call that is answered is Done, with that reply, from then on; it is sent no more, and answered no more.
func TestAnswer(t *testing.T) {
	for _, port := range ports {
		for _, to := range ports {
			c := Of(port, 1, 9)
			begins(t, c, to, 1)
			begins(t, c, to, 2)
			want := reply(to, port, 2)
			if !c.Answer(want) || c.Answer(want) {
				t.Fatalf("the answer from %d to %d", to, port)
			}
			if c.Answer(reply(to+1, port, 2)) || c.Answer(api.Message{To: port, Reply: to, ID: 2}) {
				t.Fatal("a call that is Done was answered")
			}
			for range 10 {
				if s, r, e := c.Get(2); s != Done || !same(r, want) || e != nil {
					t.Fatal(s, r, e)
				}
				c.Tick()
			}
			has(t, c, 1, Failed, api.ErrTimeout)
			if c.Len() != 2 {
				t.Fatal(c.Len())
			}
		}
	}
}

// P21.2: a call that is answered ahead of its first tick, between two tries, on the tick when it was sent, and on the last tick ahead of Failed is Done for good; behind that it is Failed for good.
func TestAnswerWhen(t *testing.T) {
	for _, wait := range []int{1, 2, 3, 4} {
		for _, tries := range []int{1, 2, 3, 4} {
			for ahead := range wait*tries + 4 {
				c := Of(7, wait, tries)
				begins(t, c, 3, 1)
				for range ahead {
					c.Tick()
				}
				if got := c.Answer(reply(3, 7, 1)); got != (ahead < wait*tries) {
					t.Fatalf("wait %d, tries %d: the answer behind %d ticks: %v", wait, tries, ahead, got)
				}
				for range wait*tries + 2 {
					if ahead < wait*tries {
						has(t, c, 1, Done, 0)
					} else {
						has(t, c, 1, Failed, api.ErrTimeout)
					}
					sends(t, c)
				}
			}
		}
	}
}

// P21.2: two calls to one port are told apart by their numbers: one that is answered leaves the other one as it is.
func TestTwoToOnePort(t *testing.T) {
	for first := range uint32(3) {
		for second := range uint32(3) {
			a := fresh(7, 2, 2)
			for k := range 3 {
				a.start(t, ask(3, k))
			}
			a.answer(t, reply(3, 7, first+1))
			a.tick(t)
			a.answer(t, reply(3, 7, second+1))
			a.ticks(t, 2)
			a.answer(t, reply(3, 7, first+1))
			a.ticks(t, 3)
		}
	}
}

// P21.2: what comes behind the reply that was taken, whatever it has, does not become the reply.
func TestFirstReply(t *testing.T) {
	a := fresh(7, 2, 2)
	a.start(t, ask(3, 1))
	for k := range 4 {
		m := reply(3, 7, 1)
		m.Arg, m.Status, m.Data = uint64(k), uint16(k), []byte{byte(k)}
		a.answer(t, m)
		a.tick(t)
	}
	if _, r, _ := a.c.Get(1); r.Arg != 0 || !bytes.Equal(r.Data, []byte{0}) {
		t.Fatal(r)
	}
}

// refuses has a client take none of these, and be as it was by it.
func (a pair) refuses(t *testing.T, m api.Message) {
	t.Helper()
	if a.c.Answer(m) {
		t.Fatalf("Answer(%v) is true", m)
	}
	a.answer(t, m)
}

// P21.2: of a number that no call has the answer is false, and nothing changes.
func TestAnswerNoNumber(t *testing.T) {
	for _, many := range []int{0, 1, 5, 63, 64} {
		a := fill(t, 3, 50, many)
		for _, id := range append(numbers, uint32(many+1)) {
			if id >= 1 && int(id) <= many {
				continue
			}
			for _, port := range []uint64{0, 20, 21, 22, 7} {
				a.refuses(t, reply(port, 7, id))
			}
		}
		a.ticks(t, 7)
	}
}

// P21.2: a reply to another port than the client's, or from another one than was asked, is not taken, by whichever bit it differs; the right one behind it is.
func TestAnswerPorts(t *testing.T) {
	for _, port := range ports {
		for _, to := range []uint64{3, 0, port, api.Word, math.MaxUint64} {
			a := fresh(port, 2, 2)
			a.start(t, ask(9, 1))
			a.start(t, ask(to, 2))
			for bit := range 64 {
				a.refuses(t, reply(to, port^1<<bit, 2))
				a.refuses(t, reply(to^1<<bit, port, 2))
				a.refuses(t, reply(to^1<<bit, port^1<<bit, 2))
			}
			if to != port {
				a.refuses(t, reply(port, to, 2))
				a.refuses(t, reply(port, port, 2))
				a.refuses(t, reply(to, to, 2))
			}
			if to != 9 {
				a.refuses(t, reply(to, port, 1))
				a.refuses(t, reply(9, port, 2))
			}
			a.answer(t, a.right(2))
			has(t, a.c, 2, Done, 0)
			a.ticks(t, 5)
		}
	}
}

// P21.2: what was handed to Start as Reply counts for nothing: only the client's port does.
func TestReplyOfRequest(t *testing.T) {
	a := fresh(7, 2, 2)
	m := ask(3, 1)
	m.Reply, m.ID, m.Status = 8, 5, 6
	a.start(t, m)
	a.refuses(t, reply(3, 8, 1))
	a.refuses(t, reply(3, 7, 5))
	a.refuses(t, reply(8, 7, 1))
	a.answer(t, reply(3, 7, 1))
	has(t, a.c, 1, Done, 0)
}

// P21.2: a call that is Done, or Failed, is answered no more, and nothing changes.
func TestAnswerEnded(t *testing.T) {
	a := fresh(7, 2, 2)
	for k := range 4 {
		a.start(t, ask(uint64(k), k))
	}
	a.answer(t, a.right(2))
	a.answer(t, a.right(4))
	a.ticks(t, 4)
	a.start(t, ask(3, 5))
	for range 3 {
		for id := range uint32(4) {
			m := a.right(id + 1)
			m.Arg = 99
			a.refuses(t, m)
			a.refuses(t, api.Message{To: 7, ID: id + 1})
			a.refuses(t, api.Message{To: 7, Reply: 7, ID: id + 1})
		}
		a.tick(t)
	}
	a.answer(t, a.right(5))
	has(t, a.c, 5, Done, 0)
}

// P21.3: Get of a number that no call has is None, a zero message and ErrNotFound, before that call begins and when there are no more.
func TestGetNone(t *testing.T) {
	for _, many := range []int{0, 1, 2, 63, 64} {
		a := fill(t, 1, 2, many)
		for _, id := range append(numbers, uint32(many+1), uint32(many+2)) {
			if id < 1 || int(id) > many {
				has(t, a.c, id, None, api.ErrNotFound)
			}
		}
	}
}

// strange is messages whose fields are at their edges, also such as may not be by layer 4.
func strange() []api.Message {
	all := api.Cap{Port: math.MaxUint64, Object: math.MaxUint32, Rights: math.MaxUint8, Check: math.MaxUint64}
	ms := []api.Message{
		{},
		{Data: []byte{}},
		{Data: []byte{0}},
		{Data: bytes.Repeat([]byte{255}, api.MaxData)},
		{Data: bytes.Repeat([]byte{7}, api.MaxData+1)},
		{Data: bytes.Repeat([]byte{1, 2, 3}, 30_000)},
		{Cap: api.Cap{Port: 1, Object: 2, Rights: 3, Check: 4}},
		{Cap: all},
		{To: math.MaxUint64, Reply: math.MaxUint64, ID: math.MaxUint32, Op: math.MaxUint16, Status: math.MaxUint16, Cap: all, Arg: math.MaxUint64, Data: []byte("all")},
		{Cap: api.Cap{Object: api.Objects}},
	}
	for _, n := range []uint64{1, api.Word, api.Word + 1, 1 << 63} {
		ms = append(ms, api.Message{To: n}, api.Message{Reply: n}, api.Message{Arg: n}, api.Message{ID: uint32(n | 1)}, api.Message{Op: uint16(n | 1)}, api.Message{Status: uint16(n | 1)})
		ms = append(ms, api.Message{Cap: api.Cap{Port: n}}, api.Message{Cap: api.Cap{Object: uint32(n | 1)}}, api.Message{Cap: api.Cap{Rights: uint8(n | 1)}}, api.Message{Cap: api.Cap{Check: n}})
	}
	return ms
}

// P21.1, P21.3: any message whatever may be a request: all of it but ID, Reply and Status is sent, at first and again.
func TestAnyRequest(t *testing.T) {
	for _, port := range []uint64{7, 0, math.MaxUint64} {
		a := fresh(port, 2, 3)
		for _, m := range strange() {
			a.start(t, m)
		}
		a.ticks(t, 4)
		for id := range a.d.calls {
			a.answer(t, a.right(uint32(id+1)))
		}
		a.ticks(t, 3)
	}
}

// P21.2, P21.3: any message whatever may be a reply: it is told as it was, and taken by nothing but its number and both ports.
func TestAnyReply(t *testing.T) {
	for _, port := range []uint64{7, 0, math.MaxUint64} {
		a := fresh(port, 2, 3)
		for k, m := range strange() {
			a.start(t, ask(uint64(k), k))
			a.answer(t, m)
			m.To, m.Reply, m.ID = port, uint64(k), uint32(k+1)
			a.answer(t, m)
			has(t, a.c, uint32(k+1), Done, 0)
		}
		a.ticks(t, 3)
	}
}

// P21.2: a reply with a Status that tells an error is a reply as any other: the call is Done, and nil is told.
func TestReplyOfFault(t *testing.T) {
	for status := range uint16(20) {
		c := Of(7, 2, 2)
		begins(t, c, 3, 1)
		if !c.Answer(api.Message{To: 7, Reply: 3, ID: 1, Status: status}) {
			t.Fatal(status)
		}
		if s, r, e := c.Get(1); s != Done || r.Status != status || e != nil {
			t.Fatal(s, r, e)
		}
	}
}

// scrawl writes into all of a message's data, and into what memory lies behind it.
func scrawl(ms ...api.Message) {
	for _, m := range ms {
		data := m.Data[:cap(m.Data)]
		for k := range data {
			data[k] = '#'
		}
	}
}

// W6: neither a request nor a reply is changed by one who later writes into what was handed in, and nothing is written behind that.
func TestHandedIn(t *testing.T) {
	a := fresh(7, 1, 4)
	memory := []byte("abcdefghijkl")
	for k := range 4 {
		a.start(t, api.Message{To: uint64(k), Data: memory[3*k : 3*k+3]})
	}
	if string(memory) != "abcdefghijkl" {
		t.Fatalf("the memory handed in is %q", memory)
	}
	for k := range memory {
		memory[k] = '#'
	}
	a.tick(t)
	memory = []byte("mnopqrstuvwx")
	for k := range 4 {
		a.answer(t, api.Message{To: 7, Reply: uint64(k), ID: uint32(k + 1), Data: memory[3*k : 3*k+3]})
	}
	if string(memory) != "mnopqrstuvwx" {
		t.Fatalf("the memory handed in is %q", memory)
	}
	for k := range memory {
		memory[k] = '#'
	}
	a.ticks(t, 2)
}

// W6: a Start that is ErrFull, and an Answer that is false, keep nothing, and write into nothing.
func TestNotKept(t *testing.T) {
	a := fill(t, 2, 40, 64)
	m := ask(3, 65)
	a.start(t, m)
	scrawl(m)
	for id := range uint32(66) {
		m := reply(99, 7, id)
		a.refuses(t, m)
		scrawl(m)
	}
	done := a.right(2)
	a.refuses(t, done)
	scrawl(done)
	a.ticks(t, 4)
}

// fair is whether a request is what Start made of ask(3, 1).
func fair(m api.Message) bool {
	want := ask(3, 1)
	want.ID, want.Reply = m.ID, 7
	return same(m, want)
}

// W6: what Start and Tick answer is new memory: neither another answer, nor the client, nor what was handed in has it.
func TestRequestsNew(t *testing.T) {
	c := Of(7, 1, 6)
	m := ask(3, 1)
	var held []api.Message
	for range 4 {
		got, e := c.Start(m)
		if e != nil || !fair(got) {
			t.Fatal(got, e)
		}
		scrawl(got)
		_ = append(got.Data, "behind it"...)
		if !same(m, ask(3, 1)) {
			t.Fatal("what was handed in has changed")
		}
		held = append(held, got)
	}
	for range 5 {
		again := c.Tick()
		if len(again) != 4 {
			t.Fatal(again)
		}
		for k, got := range again {
			if !fair(got) || got.ID != uint32(k+1) {
				t.Fatalf("the request %d is %v", k+1, got)
			}
			scrawl(got)
			_ = append(got.Data, "behind it"...)
		}
		held = append(held, again...)
		_ = append(again, ask(9, 9), ask(9, 9))
		for k := range again {
			again[k] = ask(9, 9)
		}
	}
	for k, got := range held {
		if !bytes.Equal(got.Data, []byte("#####")) {
			t.Fatalf("the answer %d has changed: %v", k, got)
		}
	}
	if !same(m, ask(3, 1)) {
		t.Fatal("what was handed in has changed")
	}
}

// W6: an elder answer stays as it was, whatever is called later.
func TestElderAnswers(t *testing.T) {
	c := Of(7, 1, 9)
	first, _ := c.Start(ask(3, 1))
	c.Start(ask(3, 1))
	lists := [][]api.Message{c.Tick(), c.Tick()}
	c.Answer(reply(3, 7, 1))
	_, got, _ := c.Get(1)
	c.Start(ask(3, 1))
	for range 12 {
		c.Tick()
		c.Get(1)
	}
	if !fair(first) || first.ID != 1 || !same(got, reply(3, 7, 1)) {
		t.Fatal(first, got)
	}
	for _, list := range lists {
		if len(list) != 2 || !fair(list[0]) || !fair(list[1]) || list[0].ID != 1 || list[1].ID != 2 {
			t.Fatal(list)
		}
	}
}

// W6: what Get answers is new memory each time: neither another answer, nor the client, nor what was handed in has it.
func TestRepliesNew(t *testing.T) {
	c := Of(7, 1, 6)
	begins(t, c, 3, 1)
	begins(t, c, 3, 2)
	m := reply(3, 7, 1)
	c.Answer(m)
	m.ID = 2
	c.Answer(m)
	m.ID = 1
	var held []api.Message
	for range 4 {
		for id := range uint32(2) {
			s, got, e := c.Get(id + 1)
			want := reply(3, 7, 1)
			want.ID = id + 1
			if s != Done || !same(got, want) || e != nil {
				t.Fatal(s, got, e)
			}
			scrawl(got)
			_ = append(got.Data, "behind it"...)
			held = append(held, got)
		}
		if !same(m, reply(3, 7, 1)) {
			t.Fatal("what was handed in has changed")
		}
	}
	scrawl(m)
	for k, got := range held {
		if !bytes.Equal(got.Data, []byte("#######")) {
			t.Fatalf("the answer %d has changed: %v", k, got)
		}
	}
	if _, got, _ := c.Get(1); !same(got, reply(3, 7, 1)) {
		t.Fatal(got)
	}
}

// W2: two clients do not know of each other, also of one port.
func TestTwo(t *testing.T) {
	a, b := fresh(7, 1, 3), fresh(7, 2, 2)
	a.start(t, ask(3, 1))
	b.look(t, "a Start of the other one")
	a.tick(t)
	b.start(t, ask(3, 2))
	b.start(t, ask(4, 3))
	a.start(t, ask(5, 4))
	b.answer(t, b.right(1))
	a.look(t, "an Answer of the other one")
	b.ticks(t, 3)
	a.ticks(t, 2)
	b.tick(t)
	a.answer(t, a.right(2))
	a.tick(t)
	b.look(t, "a Tick of the other one")
	if Of(1, 1, 1) == Of(1, 1, 1) {
		t.Error("two clients are one")
	}
}

// twin is a pair of its own with the same in it; its Client is a copy by value.
func (a pair) twin() pair {
	c, d := *a.c, *a.d
	d.calls = append([]entry(nil), a.d.calls...)
	return pair{&c, &d}
}

// steps is calls on what fill makes, and on what these leave.
func steps(t *testing.T) []func(a pair) {
	return []func(a pair){
		func(a pair) { a.tick(t) },
		func(a pair) { a.start(t, ask(20, 50)) },
		func(a pair) { a.start(t, ask(21, 51)) },
		func(a pair) { a.answer(t, reply(20, 7, 1)) },
		func(a pair) { a.answer(t, reply(21, 7, 2)) },
		func(a pair) { a.answer(t, reply(20, 7, 2)) },
		func(a pair) { a.answer(t, reply(20, 7, 64)) },
		func(a pair) { a.answer(t, reply(20, 8, 1)) },
	}
}

// W2: a copy of a Client is one of its own: what is called of one is not seen in the other, nor is what is written into what one answers.
func TestCopy(t *testing.T) {
	for _, many := range []int{0, 1, 2, 5, 63, 64} {
		for _, one := range steps(t) {
			for _, other := range steps(t) {
				a := fill(t, 2, 40, many)
				one(a)
				b := a.twin()
				one(b)
				other(b)
				other(a)
				one(a)
				a.look(t, "the steps of both")
				b.look(t, "the steps of both")
			}
		}
	}
	a := fill(t, 1, 40, 9)
	b := a.twin()
	scrawl(b.c.Tick()...)
	_, got, _ := b.c.Get(2)
	scrawl(got)
	a.ticks(t, 3)
}

// P21.1, P21.2, P21.3: each run of four of the steps behind a Start, of each small wait and tries, then ticks up to where all have ended; and each run of three of them from many calls, or as many as there may be.
func TestRuns(t *testing.T) {
	all := steps(t)
	n := len(all)
	for _, c := range []struct{ wait, tries int }{{1, 1}, {1, 2}, {2, 1}, {2, 2}, {1, 3}, {3, 1}} {
		for run := range n * n * n * n {
			a := fresh(7, c.wait, c.tries)
			a.start(t, ask(20, 1))
			for rest, k := run, 0; k < 4; rest, k = rest/n, k+1 {
				all[rest%n](a)
			}
			if run%3 == 0 {
				a.ticks(t, c.wait*c.tries+1)
			}
		}
	}
	for _, many := range []int{2, 62, 63, 64} {
		start := fill(t, 2, 33, many)
		for run := range n * n * n {
			a := start.twin()
			for rest, k := run, 0; k < 3; rest, k = rest/n, k+1 {
				all[rest%n](a)
			}
		}
		start.ticks(t, 70)
	}
}

// strew is a source of numbers below n.
func strew(seed uint64) func(n int) int {
	state := seed + 21
	return func(n int) int {
		state = state*6364136223846793005 + 1442695040888963407
		return int(state>>33) % n
	}
}

// stray is a reply that is right, or wrong in one thing.
func (a pair) stray(draw func(int) int) api.Message {
	m := reply(uint64(draw(3)), a.d.port, uint32(draw(66)))
	if len(a.d.calls) > 0 {
		m = a.right(uint32(1 + draw(len(a.d.calls))))
	}
	switch draw(8) {
	case 0:
		m.To ^= 1 << draw(64)
	case 1:
		m.Reply ^= 1 << draw(64)
	case 2:
		m.ID ^= 1 << draw(32)
	}
	return m
}

// P21.1, P21.2, P21.3: long strewn runs of all calls, of each wait and tries up to some.
func TestStrewn(t *testing.T) {
	ended := map[State]int{}
	again, full := 0, 0
	for seed := range uint64(150) {
		draw := strew(seed)
		a := fresh(uint64(draw(4)), draw(9)-1, draw(7)-1)
		starts, ticks := 1+draw(7), 1+draw(5)
		for step := range 150 {
			switch k := draw(12); {
			case k < starts:
				if a.c.Len() == 64 {
					full++
				}
				a.start(t, ask(uint64(draw(5)), step))
			case k < starts+ticks:
				b := a.twin()
				again += len(b.c.Tick())
				a.tick(t)
			default:
				a.answer(t, a.stray(draw))
			}
		}
		for k := range a.d.calls {
			ended[a.d.state(uint32(k+1))]++
		}
	}
	if ended[Waiting] < 100 || ended[Done] < 500 || ended[Failed] < 500 || again < 1000 || full < 10 {
		t.Errorf("%v ended so; %d were sent again, %d times no room", ended, again, full)
	}
}
