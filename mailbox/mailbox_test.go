package mailbox

import (
	"bytes"
	"errors"
	"fmt"
	"math"
	"reflect"
	"testing"

	"sigillum/api"
)

// The edges of how much room there may be, and how much that is.
var rooms = []struct{ asked, got int }{
	{math.MinInt, 0}, {math.MinInt + 1, 0}, {-1 << 32, 0}, {math.MinInt32, 0}, {-65, 0}, {-64, 0}, {-2, 0}, {-1, 0}, {0, 0},
	{1, 1}, {2, 2}, {3, 3}, {31, 31}, {32, 32}, {62, 62}, {63, 63}, {64, 64},
	{65, 64}, {66, 64}, {127, 64}, {128, 64}, {255, 64}, {256, 64}, {1 << 16, 64}, {math.MaxInt32, 64}, {1 << 32, 64}, {1<<32 + 1, 64}, {1 << 62, 64}, {math.MaxInt - 1, 64}, {math.MaxInt, 64},
}

// entry is a message that the model has, and of which kind it is.
type entry struct {
	m      api.Message
	urgent bool
}

// model has both kinds in one list, in the order in which they were put in: which one comes next it looks for each time.
type model struct {
	room int
	in   []entry
}

func (d *model) count(urgent bool) int {
	n := 0
	for _, e := range d.in {
		if e.urgent == urgent {
			n++
		}
	}
	return n
}

func (d *model) put(m api.Message, urgent bool) bool {
	if d.count(urgent) == d.room {
		return false
	}
	d.in = append(d.in, entry{alike(m), urgent})
	return true
}

// first takes the first one of a kind out of which is is true.
func (d *model) first(urgent bool, is func(api.Message) bool) (api.Message, bool) {
	for k, e := range d.in {
		if e.urgent == urgent && is(e.m) {
			d.in = append(append([]entry(nil), d.in[:k]...), d.in[k+1:]...)
			return e.m, true
		}
	}
	return api.Message{}, false
}

func (d *model) get() (api.Message, bool) {
	if m, ok := d.first(true, every); ok {
		return m, true
	}
	return d.first(false, every)
}

func (d *model) all(is func(api.Message) bool) []api.Message {
	var out []api.Message
	for _, urgent := range []bool{true, false} {
		for m, ok := d.first(urgent, is); ok; m, ok = d.first(urgent, is) {
			out = append(out, m)
		}
	}
	return out
}

func every(api.Message) bool { return true }
func none(api.Message) bool  { return false }

// alike is a message with memory of its own.
func alike(m api.Message) api.Message {
	m.Data = append([]byte(nil), m.Data...)
	return m
}

// same is whether two messages are the same; data without bytes is nil or empty, as one likes.
func same(a, b api.Message) bool {
	data := bytes.Equal(a.Data, b.Data)
	a.Data, b.Data = nil, nil
	return data && reflect.DeepEqual(a, b)
}

// sameRow is whether two lists have the same messages in the same order.
func sameRow(a, b []api.Message) bool {
	for k := range min(len(a), len(b)) {
		if !same(a[k], b[k]) {
			return false
		}
	}
	return len(a) == len(b)
}

// zero is whether a message has nothing but zero values.
func zero(m api.Message) bool { return same(m, api.Message{}) }

// pair is a Box and the model of it.
type pair struct {
	x *Box
	d *model
}

func of(room int) pair {
	return pair{Of(room), &model{room: min(max(room, 0), 64)}}
}

// count holds Len against the model, twice: it changes nothing.
func (a pair) count(t *testing.T, after string) {
	t.Helper()
	for range 2 {
		if u, o := a.x.Len(); u != a.d.count(true) || o != a.d.count(false) {
			t.Fatalf("after %s: Len %d, %d; want %d, %d", after, u, o, a.d.count(true), a.d.count(false))
		}
	}
}

func (a pair) put(t *testing.T, m api.Message, urgent bool) {
	t.Helper()
	held := alike(m)
	room := a.d.put(m, urgent)
	e := a.x.Put(m, urgent)
	if room && e != nil || !room && !errors.Is(e, api.ErrFull) {
		t.Fatalf("Put(%v, %v): %v; room is %v", m, urgent, e, room)
	}
	if !same(m, held) {
		t.Fatalf("Put wrote into what was handed in: %v, it was %v", m, held)
	}
	a.count(t, "Put")
}

func (a pair) get(t *testing.T) {
	t.Helper()
	want, is := a.d.get()
	got, ok := a.x.Get()
	if ok != is || !same(got, want) {
		t.Fatalf("Get: %v, %v; want %v, %v", got, ok, want, is)
	}
	a.count(t, "Get")
}

func (a pair) all(t *testing.T, is func(api.Message) bool) {
	t.Helper()
	want := a.d.all(is)
	got := a.x.All(is)
	if !sameRow(got, want) {
		t.Fatalf("All: %v; want %v", got, want)
	}
	a.count(t, "All")
}

// drain gets all that is in the box, and once more.
func (a pair) drain(t *testing.T) {
	t.Helper()
	for range len(a.d.in) + 1 {
		a.get(t)
	}
	a.count(t, "the last Get")
}

// note is a message that is told from others by its number.
func note(id int) api.Message {
	return api.Message{ID: uint32(id), Arg: uint64(id) * 3, Data: []byte(fmt.Sprint("note ", id))}
}

// ids is the numbers of messages.
func ids(ms []api.Message) []int {
	var out []int
	for _, m := range ms {
		out = append(out, int(m.ID))
	}
	return out
}

// fill lays urgent ones in, with the numbers 100 and on, and others, with 200 and on, mixed.
func fill(t *testing.T, room, urgent, others int) pair {
	t.Helper()
	a := of(room)
	for k := range max(urgent, others) {
		if k < others {
			a.put(t, note(200+k), false)
		}
		if k < urgent {
			a.put(t, note(100+k), true)
		}
	}
	return a
}

// gets has just these come out of a box, by their numbers, and then nothing.
func gets(t *testing.T, b *Box, want ...int) {
	t.Helper()
	for _, id := range want {
		if m, ok := b.Get(); !ok || !same(m, note(id)) {
			t.Fatalf("Get: %v, %v; want %d", m, ok, id)
		}
	}
	nothing(t, b)
}

// nothing has a box be empty.
func nothing(t *testing.T, b *Box) {
	t.Helper()
	if u, o := b.Len(); u != 0 || o != 0 {
		t.Fatalf("Len %d, %d; want none", u, o)
	}
	if m, ok := b.Get(); ok || !zero(m) {
		t.Fatalf("Get: %v, %v; want none", m, ok)
	}
	if u, o := b.Len(); u != 0 || o != 0 {
		t.Fatalf("behind a Get of nothing: Len %d, %d", u, o)
	}
}

// many has so many be in a box.
func many(t *testing.T, b *Box, urgent, others int) {
	t.Helper()
	if u, o := b.Len(); u != urgent || o != others {
		t.Fatalf("Len %d, %d; want %d, %d", u, o, urgent, others)
	}
}

// full has a box have no room for one of a kind.
func full(t *testing.T, b *Box, urgent bool) {
	t.Helper()
	if e := b.Put(note(999), urgent); !errors.Is(e, api.ErrFull) {
		t.Fatalf("Put: %v; want ErrFull", e)
	}
}

// span is the numbers from one on, so many.
func span(from, n int) []int {
	var out []int
	for k := range n {
		out = append(out, from+k)
	}
	return out
}

// P19.1, P19.2: the chapter's example.
func TestExample(t *testing.T) {
	b := Of(2)
	for _, p := range []entry{{note(1), false}, {note(2), false}, {note(3), true}} {
		if e := b.Put(p.m, p.urgent); e != nil {
			t.Fatal(e)
		}
	}
	gets(t, b, 3, 1, 2)
}

// P19.1: a box of Of has room for so many of either kind, from 0 to 64, and no more; of less 0, of more 64.
func TestRooms(t *testing.T) {
	for _, r := range rooms {
		for _, urgent := range []bool{true, false} {
			b := Of(r.asked)
			nothing(t, b)
			for k := range r.got {
				if e := b.Put(note(k), urgent); e != nil {
					t.Fatalf("Of(%d): Put number %d: %v", r.asked, k, e)
				}
			}
			full(t, b, urgent)
			for k := range r.got {
				if e := b.Put(note(100+k), !urgent); e != nil {
					t.Fatalf("Of(%d): Put number %d of the other kind: %v", r.asked, k, e)
				}
			}
			full(t, b, urgent)
			full(t, b, !urgent)
			many(t, b, r.got, r.got)
			if urgent {
				gets(t, b, append(span(0, r.got), span(100, r.got)...)...)
			} else {
				gets(t, b, append(span(100, r.got), span(0, r.got)...)...)
			}
		}
	}
	for room := -70; room <= 140; room++ {
		a := of(room)
		for k := range 66 {
			a.put(t, note(k), true)
			a.put(t, note(k), false)
		}
		a.drain(t)
	}
}

// P19.1: a box without room tells so in each call, however often.
func TestNoRoom(t *testing.T) {
	for _, room := range []int{math.MinInt, -1, 0} {
		b := Of(room)
		for range 3 {
			full(t, b, true)
			full(t, b, false)
			nothing(t, b)
			if got := b.All(every); len(got) != 0 {
				t.Fatal(got)
			}
			if got := b.All(none); len(got) != 0 {
				t.Fatal(got)
			}
		}
	}
}

// P19.1, P19.2: urgent ones and others, put in mixed, and got one by one.
func TestMixed(t *testing.T) {
	for pattern := range 1 << 7 {
		a := of(7)
		for k := range 7 {
			a.put(t, note(k), pattern>>k&1 == 1)
		}
		a.drain(t)
	}
}

// P19.1, P19.2: Puts between Gets: what is urgent comes ahead, whenever it was put in.
func TestBetween(t *testing.T) {
	b := Of(4)
	put := func(id int, urgent bool) {
		t.Helper()
		if e := b.Put(note(id), urgent); e != nil {
			t.Fatal(e)
		}
	}
	get := func(id int) {
		t.Helper()
		if m, ok := b.Get(); !ok || !same(m, note(id)) {
			t.Fatalf("Get: %v, %v; want %d", m, ok, id)
		}
	}
	put(1, false)
	put(2, false)
	get(1)
	put(3, true)
	many(t, b, 1, 1)
	put(4, false)
	get(3)
	put(5, true)
	put(6, true)
	get(5)
	put(7, true)
	get(6)
	get(7)
	get(2)
	many(t, b, 0, 1)
	put(8, true)
	get(8)
	get(4)
	nothing(t, b)
	put(9, false)
	gets(t, b, 9)
}

// P19.1, P19.2: a box goes round its room many times over without losing the order.
func TestLongRow(t *testing.T) {
	for _, room := range []int{1, 2, 3, 63, 64} {
		a := fill(t, room, room, room)
		for k := range 3 * room {
			a.get(t)
			a.put(t, note(1000+k), true)
			a.put(t, note(9999), true)
		}
		for range room {
			a.get(t)
		}
		for k := range 3 * room {
			a.get(t)
			a.put(t, note(2000+k), false)
			a.put(t, note(9999), false)
		}
		a.drain(t)
	}
}

// P19.1: one kind that is full takes no room from the other one, and the other way round.
func TestOneKindFull(t *testing.T) {
	for _, room := range []int{1, 2, 63, 64} {
		for _, urgent := range []bool{true, false} {
			b := Of(room)
			for k := range room {
				b.Put(note(k), urgent)
			}
			for k := range room {
				full(t, b, urgent)
				if e := b.Put(note(100+k), !urgent); e != nil {
					t.Fatal(e)
				}
			}
			full(t, b, urgent)
			full(t, b, !urgent)
			many(t, b, room, room)
		}
	}
}

// P19.1, W3: a Put that has no room changes nothing, neither what is in the box nor the order.
func TestPutFull(t *testing.T) {
	for _, room := range []int{1, 2, 3, 64} {
		b := fill(t, room, room, room).x
		for range 3 {
			full(t, b, true)
			full(t, b, false)
			many(t, b, room, room)
		}
		gets(t, b, append(span(100, room), span(200, room)...)...)
	}
}

// P19.1: ErrFull is told as it is or wrapped, and as nothing else.
func TestErrFull(t *testing.T) {
	e := Of(0).Put(note(1), true)
	if api.Number(e) != api.ErrFull {
		t.Error(e)
	}
}

// P19.1, P19.2: room again behind a Get: for one of the kind that was got, and for no other one.
func TestRoomBehindGet(t *testing.T) {
	for _, room := range []int{1, 2, 63, 64} {
		b := fill(t, room, room, room).x
		if m, ok := b.Get(); !ok || m.ID != 100 {
			t.Fatal(m, ok)
		}
		full(t, b, false)
		if e := b.Put(note(500), true); e != nil {
			t.Fatal(e)
		}
		full(t, b, true)
		for range room {
			b.Get()
		}
		many(t, b, 0, room)
		full(t, b, false)
		if m, ok := b.Get(); !ok || m.ID != 200 {
			t.Fatal(m, ok)
		}
		if e := b.Put(note(600), false); e != nil {
			t.Fatal(e)
		}
		full(t, b, false)
		gets(t, b, append(span(201, room-1), 600)...)
	}
}

// P19.1, P19.2: room again behind an All: for as many of each kind as were taken out.
func TestRoomBehindAll(t *testing.T) {
	for _, room := range []int{1, 2, 5, 63, 64} {
		for _, urgent := range []int{0, 1, room / 2, room} {
			for _, others := range []int{0, 1, room / 2, room} {
				a := fill(t, room, room, room)
				a.all(t, func(m api.Message) bool {
					return m.ID >= 100 && m.ID < uint32(100+urgent) || m.ID >= 200 && m.ID < uint32(200+others)
				})
				many(t, a.x, room-urgent, room-others)
				for k := range urgent {
					a.put(t, note(500+k), true)
				}
				for k := range others {
					a.put(t, note(600+k), false)
				}
				full(t, a.x, true)
				full(t, a.x, false)
				a.drain(t)
			}
		}
	}
}

// P19.2: Get of urgent ones alone, of others alone, and of the last one of a kind.
func TestOneKind(t *testing.T) {
	for _, n := range []int{1, 2, 3, 63, 64} {
		gets(t, fill(t, 64, n, 0).x, span(100, n)...)
		gets(t, fill(t, 64, 0, n).x, span(200, n)...)
		gets(t, fill(t, 64, 1, n).x, append([]int{100}, span(200, n)...)...)
		gets(t, fill(t, 64, n, 1).x, append(span(100, n), 200)...)
	}
}

// P19.2, W3: Get of an empty box is a zero message and false, of a new one and of one that was emptied, and changes nothing.
func TestGetEmpty(t *testing.T) {
	for _, r := range rooms {
		b := Of(r.asked)
		for range 3 {
			nothing(t, b)
		}
		if r.got == 0 {
			continue
		}
		b.Put(note(1), false)
		b.Put(note(2), true)
		gets(t, b, 2, 1)
		nothing(t, b)
		b.Put(note(3), true)
		if got := ids(b.All(every)); !reflect.DeepEqual(got, []int{3}) {
			t.Fatal(got)
		}
		nothing(t, b)
		b.Put(note(4), false)
		gets(t, b, 4)
	}
}

// P19.2: a zero message is got as such: true stands beside it, and false where there is none.
func TestZeroMessage(t *testing.T) {
	b := Of(2)
	b.Put(api.Message{}, false)
	b.Put(api.Message{}, true)
	b.Put(note(1), true)
	for _, want := range []api.Message{{}, note(1), {}} {
		if m, ok := b.Get(); !ok || !same(m, want) {
			t.Fatalf("%v, %v; want %v", m, ok, want)
		}
	}
	nothing(t, b)
	b.Put(api.Message{}, true)
	if got := b.All(zero); len(got) != 1 || !zero(got[0]) {
		t.Fatal(got)
	}
	nothing(t, b)
}

// P19.2: All of an empty box asks nobody, and answers nothing.
func TestAllEmpty(t *testing.T) {
	for _, r := range rooms {
		a := of(r.asked)
		for range 2 {
			if got := a.x.All(func(api.Message) bool { t.Fatal("asked"); return true }); len(got) != 0 {
				t.Fatal(got)
			}
		}
		nothing(t, a.x)
		a.put(t, note(1), true)
		a.put(t, note(2), false)
		a.drain(t)
	}
}

// P19.2: All of which all, none, the first, the last and every other message is true; of one kind alone, and of both.
func TestAll(t *testing.T) {
	for _, c := range []struct{ urgent, others int }{{0, 0}, {0, 1}, {1, 0}, {1, 1}, {0, 2}, {2, 0}, {2, 1}, {1, 2}, {5, 0}, {0, 5}, {5, 5}, {64, 0}, {0, 64}, {64, 63}, {63, 64}, {64, 64}} {
		in := append(span(100, c.urgent), span(200, c.others)...)
		for name, is := range map[string]func(api.Message) bool{
			"all":         every,
			"none":        none,
			"first":       func(m api.Message) bool { return m.ID == uint32(in[0]) },
			"last":        func(m api.Message) bool { return m.ID == uint32(in[len(in)-1]) },
			"even":        func(m api.Message) bool { return m.ID%2 == 0 },
			"odd":         func(m api.Message) bool { return m.ID%2 == 1 },
			"urgent":      func(m api.Message) bool { return m.ID < 200 },
			"others":      func(m api.Message) bool { return m.ID >= 200 },
			"first other": func(m api.Message) bool { return m.ID == 200 },
			"last urgent": func(m api.Message) bool { return m.ID == uint32(99+c.urgent) },
			"by its data": func(m api.Message) bool { return bytes.HasSuffix(m.Data, []byte("1")) },
		} {
			b := fill(t, 64, c.urgent, c.others).x
			var out, stay []int
			for _, id := range in {
				if is(note(id)) {
					out = append(out, id)
				} else {
					stay = append(stay, id)
				}
			}
			if got := b.All(is); !reflect.DeepEqual(ids(got), out) {
				t.Fatalf("%s of %v: %v; want %v", name, c, ids(got), out)
			}
			if got := b.All(is); len(got) != 0 {
				t.Fatalf("%s of %v once more: %v", name, c, ids(got))
			}
			gets(t, b, stay...)
		}
	}
}

// P19.2: each choice of those of which is is true, from each small box: what is answered, what stays, and what is put in behind it.
func TestAllChoices(t *testing.T) {
	for urgent := range 5 {
		for others := range 5 {
			for choice := range 1 << (urgent + others) {
				a := fill(t, 6, urgent, others)
				a.all(t, func(m api.Message) bool {
					if m.ID < 200 {
						return choice>>(m.ID-100)&1 == 1
					}
					return choice>>(int(m.ID)-200+urgent)&1 == 1
				})
				a.put(t, note(300), false)
				a.put(t, note(301), true)
				a.drain(t)
			}
		}
	}
}

// P19.2: what All leaves stands ahead of what is put in behind it, each kind in order, also when the box is full again.
func TestBehindAll(t *testing.T) {
	b := fill(t, 4, 4, 4).x
	if got := ids(b.All(func(m api.Message) bool { return m.ID%2 == 1 })); !reflect.DeepEqual(got, []int{101, 103, 201, 203}) {
		t.Fatal(got)
	}
	many(t, b, 2, 2)
	for k := range 2 {
		b.Put(note(300+k), false)
		b.Put(note(400+k), true)
	}
	full(t, b, true)
	full(t, b, false)
	if got := ids(b.All(func(m api.Message) bool { return m.ID%100 == 0 })); !reflect.DeepEqual(got, []int{100, 400, 200, 300}) {
		t.Fatal(got)
	}
	gets(t, b, 102, 401, 202, 301)
}

// P19.2: All works on a box from which some were got ahead, and Get on one from which All took.
func TestAllBehindGet(t *testing.T) {
	for _, room := range []int{1, 2, 3, 7, 64} {
		for taken := range 2 * room {
			a := fill(t, room, room, room)
			for range taken {
				a.get(t)
			}
			a.put(t, note(500), true)
			a.put(t, note(501), false)
			a.all(t, func(m api.Message) bool { return m.ID%3 == 1 })
			a.put(t, note(502), true)
			a.put(t, note(503), false)
			a.drain(t)
		}
	}
}

// P19.2: is is asked of each message once, the urgent ones ahead, each kind in order; and what it answers counts for that one.
func TestAsked(t *testing.T) {
	for _, from := range []int{0, 1} {
		b := fill(t, 5, 3, 4).x
		var asked []int
		got := b.All(func(m api.Message) bool {
			asked = append(asked, int(m.ID))
			return len(asked)%2 == from
		})
		if want := []int{100, 101, 102, 200, 201, 202, 203}; !reflect.DeepEqual(asked, want) {
			t.Fatal(asked)
		}
		if from == 1 {
			if !reflect.DeepEqual(ids(got), []int{100, 102, 201, 203}) {
				t.Fatal(ids(got))
			}
			gets(t, b, 101, 200, 202)
		} else {
			if !reflect.DeepEqual(ids(got), []int{101, 200, 202}) {
				t.Fatal(ids(got))
			}
			gets(t, b, 100, 102, 201, 203)
		}
	}
}

// P19.1, P19.2: is may look at the box: nothing is out of it yet.
func TestLenInside(t *testing.T) {
	for _, answer := range []bool{true, false} {
		b := fill(t, 3, 3, 2).x
		b.All(func(api.Message) bool {
			many(t, b, 3, 2)
			return answer
		})
	}
}

// P19.2: messages that are the same are told apart by nothing but their order: as many come out as were put in.
func TestSameOnes(t *testing.T) {
	a := of(4)
	for range 3 {
		a.put(t, note(1), true)
		a.put(t, note(1), false)
	}
	a.put(t, note(2), false)
	a.get(t)
	count := 0
	is := func(api.Message) bool { count++; return count == 2 || count == 4 }
	if got := ids(a.x.All(is)); !reflect.DeepEqual(got, []int{1, 1}) {
		t.Fatal(got)
	}
	gets(t, a.x, 1, 1, 1, 2)
}

// strange is messages whose fields are at their edges, also such as may not be by layer 4.
func strange() []api.Message {
	ms := []api.Message{
		{},
		{Data: []byte{}},
		{Data: []byte{0}},
		{Data: bytes.Repeat([]byte{255}, api.MaxData)},
		{Data: bytes.Repeat([]byte{7}, api.MaxData+1)},
		{Data: bytes.Repeat([]byte{1, 2, 3}, 100_000)},
		{Cap: api.Cap{Port: 1, Object: 2, Rights: 3, Check: 4}},
		{Cap: api.Cap{Port: math.MaxUint64, Object: math.MaxUint32, Rights: math.MaxUint8, Check: math.MaxUint64}},
		{To: math.MaxUint64, Reply: math.MaxUint64, ID: math.MaxUint32, Op: math.MaxUint16, Status: math.MaxUint16, Cap: api.Cap{Port: math.MaxUint64, Object: math.MaxUint32, Rights: math.MaxUint8, Check: math.MaxUint64}, Arg: math.MaxUint64, Data: []byte("all")},
	}
	for _, n := range []uint64{1, api.Word, api.Word + 1, 1 << 63} {
		ms = append(ms, api.Message{To: n}, api.Message{Reply: n}, api.Message{Arg: n}, api.Message{ID: uint32(n | 1)}, api.Message{Op: uint16(n | 1)}, api.Message{Status: uint16(n | 1)})
		ms = append(ms, api.Message{Cap: api.Cap{Port: n}}, api.Message{Cap: api.Cap{Object: uint32(n | 1)}}, api.Message{Cap: api.Cap{Rights: uint8(n | 1)}}, api.Message{Cap: api.Cap{Check: n}})
	}
	return append(ms, api.Message{Cap: api.Cap{Object: api.Objects}}, api.Message{Cap: api.Cap{Object: api.Objects - 1}})
}

// P19.1, P19.2: any message whatever is put in, asked of, and comes out as it was.
func TestAnyMessage(t *testing.T) {
	ms := strange()
	for _, urgent := range []bool{true, false} {
		a, b := of(64), of(64)
		for _, m := range ms {
			a.put(t, m, urgent)
			b.put(t, m, urgent)
		}
		var asked []api.Message
		a.all(t, none)
		a.x.All(func(m api.Message) bool { asked = append(asked, m); return false })
		if !sameRow(asked, ms) {
			t.Fatal("asked of others than were put in")
		}
		a.drain(t)
		b.all(t, func(m api.Message) bool { return len(m.Data) > 0 })
		b.all(t, every)
		nothing(t, b.x)
	}
}

// scrawl writes into all of a message's data, and into what memory lies behind it.
func scrawl(m api.Message) {
	data := m.Data[:cap(m.Data)]
	for k := range data {
		data[k] = '#'
	}
}

// W6: what is in the box is not changed by one who later writes into what was handed in.
func TestHandedIn(t *testing.T) {
	for _, urgent := range []bool{true, false} {
		a := of(5)
		memory := []byte("abcdefghijkl")
		for k := range 4 {
			m := api.Message{ID: uint32(k), Data: memory[3*k : 3*k+3]}
			a.put(t, m, urgent)
		}
		for k := range memory {
			memory[k] = '#'
		}
		a.get(t)
		a.all(t, func(m api.Message) bool { return m.ID == 2 })
		a.drain(t)
	}
}

// W6: a Put that has no room keeps nothing, and writes into nothing.
func TestHandedInFull(t *testing.T) {
	a := of(1)
	a.put(t, note(1), true)
	m := note(2)
	a.put(t, m, true)
	scrawl(m)
	a.drain(t)
}

// W6: what Get answers is new memory: neither another answer, nor the box, nor what was handed in has it.
func TestGot(t *testing.T) {
	for _, urgent := range []bool{true, false} {
		b := Of(4)
		m := note(1)
		for range 4 {
			b.Put(m, urgent)
		}
		for range 2 {
			got, ok := b.Get()
			if !ok || !same(got, note(1)) {
				t.Fatal(got, ok)
			}
			scrawl(got)
			if !same(m, note(1)) {
				t.Fatal("what was handed in has changed")
			}
		}
		b.Put(m, urgent)
		gets(t, b, 1, 1, 1)
	}
}

// W6: what All answers is new memory, the list and each message's data.
func TestAllNew(t *testing.T) {
	b := Of(4)
	m := note(1)
	for range 4 {
		b.Put(m, true)
		b.Put(m, false)
	}
	count := 0
	got := b.All(func(api.Message) bool { count++; return count%2 == 0 })
	if len(got) != 4 {
		t.Fatal(got)
	}
	for k := range got {
		scrawl(got[k])
		for _, other := range got[k+1:] {
			if !same(other, note(1)) {
				t.Fatal("two messages of one answer share memory")
			}
		}
		got[k] = note(9)
	}
	_ = append(got, note(8), note(8))
	if !same(m, note(1)) {
		t.Fatal("what was handed in has changed")
	}
	rest := b.All(every)
	if !sameRow(rest, []api.Message{note(1), note(1), note(1), note(1)}) {
		t.Fatal(rest)
	}
	if got[0].ID != 9 || got[3].ID != 9 {
		t.Fatal("a later All wrote into an earlier answer")
	}
	nothing(t, b)
}

// W6: is has messages of its own: what it writes, at once or later, is neither in the box nor in the answer.
func TestAskedNew(t *testing.T) {
	b := fill(t, 4, 2, 2).x
	var kept []api.Message
	got := b.All(func(m api.Message) bool {
		kept = append(kept, alike(m))
		scrawl(m)
		kept = append(kept, m)
		return m.ID%2 == 0
	})
	if !sameRow(got, []api.Message{note(100), note(200)}) {
		t.Fatal(got)
	}
	var later []api.Message
	if out := b.All(func(m api.Message) bool { later = append(later, m); return false }); len(out) != 0 {
		t.Fatal(out)
	}
	for _, m := range append(kept, later...) {
		scrawl(m)
	}
	if !sameRow(got, []api.Message{note(100), note(200)}) {
		t.Fatal("the answer has what is was asked of")
	}
	gets(t, b, 101, 201)
}

// W1: an is that is nil, or that panics, takes nothing out by that, and All does not panic.
func TestPanic(t *testing.T) {
	b := fill(t, 3, 3, 3).x
	if got := b.All(nil); len(got) != 0 {
		t.Fatal(got)
	}
	many(t, b, 3, 3)
	got := b.All(func(m api.Message) bool {
		if m.ID%2 == 0 {
			panic("even")
		}
		return true
	})
	if !reflect.DeepEqual(ids(got), []int{101, 201}) {
		t.Fatal(ids(got))
	}
	gets(t, b, 100, 102, 200, 202)
	if got := b.All(nil); len(got) != 0 {
		t.Fatal(got)
	}
}

// W1: each call ends, also All with an is that does to the box what it should not; nothing else is promised of that.
func TestEnds(t *testing.T) {
	for _, room := range []int{1, 2, 64} {
		for _, do := range []func(b *Box){
			func(b *Box) { b.Get() },
			func(b *Box) { b.Put(note(1), true) },
			func(b *Box) { b.Put(note(1), false) },
			func(b *Box) { b.All(every) },
			func(b *Box) { b.Get(); b.Put(note(1), false) },
		} {
			for _, answer := range []bool{true, false} {
				b := fill(t, room, room, (room+1)/2).x
				b.All(func(api.Message) bool { do(b); return answer })
			}
		}
	}
}

// W2: two boxes do not know of each other.
func TestTwo(t *testing.T) {
	a, b := of(2), of(2)
	a.put(t, note(1), true)
	b.count(t, "a Put of the other one")
	b.put(t, note(2), true)
	b.put(t, note(3), false)
	a.put(t, note(4), true)
	a.put(t, note(5), true)
	b.put(t, note(6), true)
	b.all(t, func(m api.Message) bool { return m.ID == 3 })
	a.get(t)
	b.drain(t)
	a.drain(t)
	if Of(3) == Of(3) {
		t.Error("two boxes are one")
	}
}

// P19.1, P19.2: each run of four of ten steps, or of fewer, from boxes that are empty, partly filled and full, of each small room.
func TestRuns(t *testing.T) {
	steps := []func(a pair){
		func(a pair) {},
		func(a pair) { a.put(t, note(1), true) },
		func(a pair) { a.put(t, note(2), false) },
		func(a pair) { a.put(t, note(3), true) },
		func(a pair) { a.get(t) },
		func(a pair) { a.all(t, every) },
		func(a pair) { a.all(t, none) },
		func(a pair) { a.all(t, func(m api.Message) bool { return m.ID%2 == 1 }) },
		func(a pair) { a.all(t, func(m api.Message) bool { return m.ID == 2 || m.ID == 100 }) },
		func(a pair) { a.all(t, func(m api.Message) bool { return m.ID >= 200 }) },
	}
	for _, c := range []struct{ room, urgent, others int }{{0, 0, 0}, {1, 0, 0}, {1, 1, 1}, {2, 0, 0}, {2, 1, 2}, {3, 2, 1}, {3, 3, 3}} {
		for run := range 10 * 10 * 10 * 10 {
			a := fill(t, c.room, c.urgent, c.others)
			for rest, k := run, 0; k < 4; rest, k = rest/10, k+1 {
				steps[rest%10](a)
			}
			a.drain(t)
		}
	}
}

// strew is a source of numbers below n.
func strew(seed uint64) func(n int) int {
	state := seed + 19
	return func(n int) int {
		state = state*6364136223846793005 + 1442695040888963407
		return int(state>>33) % n
	}
}

// P19.1, P19.2: long strewn runs of all calls, in boxes of each room.
func TestStrewn(t *testing.T) {
	filled, emptied := 0, 0
	for seed := range uint64(140) {
		draw := strew(seed)
		a := of(int(seed)%70 - 2)
		odds := 1 + draw(8)
		for step := range 400 {
			switch k := draw(12); {
			case k < odds:
				a.put(t, note(step), draw(2) == 0)
			case k == 11 && draw(3) == 0:
				a.all(t, every)
			case k == 10:
				by, left := uint32(1+draw(5)), uint32(draw(5))
				a.all(t, func(m api.Message) bool { return m.ID%by == left })
			default:
				a.get(t)
			}
			if u, o := a.x.Len(); u > 0 && u == a.d.room || o > 0 && o == a.d.room {
				filled++
			} else if u+o == 0 {
				emptied++
			}
		}
		a.drain(t)
	}
	if filled < 1000 || emptied < 1000 {
		t.Errorf("%d times full, %d times empty", filled, emptied)
	}
}
