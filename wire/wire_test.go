package wire

import (
	"bytes"
	"container/list"
	"errors"
	"math"
	"math/big"
	"testing"

	"sigillum/api"
)

// The edges of numbers that may be anything.
var (
	nodes = []int{0, 1, 2, -1, -2, 255, 256, 1 << 32, 1<<32 + 1, math.MinInt, math.MinInt + 1, math.MaxInt - 1, math.MaxInt}
	ids   = []uint64{0, 1, 2, 255, 256, 1 << 32, 1<<32 + 1, 1 << 63, math.MaxUint64 - 1, math.MaxUint64}
)

// item is a packet of the model, whose data nobody can write into.
type item struct {
	from, to     int
	id           uint64
	index, count int
	data         string
}

func still(p api.Packet) item { return item{p.From, p.To, p.ID, p.Index, p.Count, string(p.Data)} }

// model is a chain of items, along which one goes from end to end.
type model struct{ on *list.List }

// tell is the link that a pick tells; nil, if there is none.
func (m model) tell(pick int) *list.Element {
	if m.on.Len() == 0 {
		return nil
	}
	at := new(big.Int).Mod(big.NewInt(int64(pick)), big.NewInt(int64(m.on.Len())))
	link := m.on.Front()
	for range at.Int64() {
		link = link.Next()
	}
	return link
}

func (m model) send(p item) error {
	if m.on.Len() == 1024 {
		return api.ErrFull
	}
	m.on.PushBack(p)
	return nil
}

func (m model) arrive(pick int) (item, bool) {
	link := m.tell(pick)
	if link == nil {
		return item{}, false
	}
	return m.on.Remove(link).(item), true
}

func (m model) double(pick int) error {
	link := m.tell(pick)
	if link == nil {
		return api.ErrNotFound
	}
	return m.send(link.Value.(item))
}

func (m model) cut(node int) int {
	gone := 0
	for link := m.on.Front(); link != nil; {
		here := link
		link = link.Next()
		if p := here.Value.(item); p.from == node || p.to == node {
			m.on.Remove(here)
			gone++
		}
	}
	return gone
}

// twin is a model of its own with the same items.
func (m model) twin() model {
	other := model{list.New()}
	other.on.PushBackList(m.on)
	return other
}

// pair is a Wire, and the model of it.
type pair struct {
	x *Wire
	m model
}

func fresh() pair { return pair{&Wire{}, model{list.New()}} }

// same holds Len against the model.
func (a pair) same(t *testing.T, after string) {
	t.Helper()
	for range 2 {
		if got := a.x.Len(); got != a.m.on.Len() {
			t.Fatalf("after %s: Len %d, want %d", after, got, a.m.on.Len())
		}
	}
}

// fail holds an error against the one that is asked for.
func fail(t *testing.T, what string, got, want error) {
	t.Helper()
	if want == nil && got != nil || want != nil && !errors.Is(got, want) {
		t.Fatalf("%s: %v, want %v", what, got, want)
	}
}

// send hands a packet in; that must stay as it was.
func (a pair) send(t *testing.T, p api.Packet) error {
	t.Helper()
	was := still(p)
	want := a.m.send(was)
	got := a.x.Send(p)
	fail(t, "Send", got, want)
	if still(p) != was {
		t.Fatalf("Send changed %v", was)
	}
	a.same(t, "Send")
	return got
}

func (a pair) arrive(t *testing.T, pick int) (api.Packet, bool) {
	t.Helper()
	want, is := a.m.arrive(pick)
	got, ok := a.x.Arrive(pick)
	if ok != is || still(got) != want {
		t.Fatalf("Arrive(%d): %v, %v; want %v, %v", pick, still(got), ok, want, is)
	}
	a.same(t, "Arrive")
	return got, ok
}

func (a pair) lose(t *testing.T, pick int) bool {
	t.Helper()
	_, want := a.m.arrive(pick)
	got := a.x.Lose(pick)
	if got != want {
		t.Fatalf("Lose(%d): %v, want %v", pick, got, want)
	}
	a.same(t, "Lose")
	return got
}

func (a pair) double(t *testing.T, pick int) error {
	t.Helper()
	want := a.m.double(pick)
	got := a.x.Double(pick)
	fail(t, "Double", got, want)
	a.same(t, "Double")
	return got
}

func (a pair) cut(t *testing.T, node int) int {
	t.Helper()
	want := a.m.cut(node)
	got := a.x.Cut(node)
	if got != want {
		t.Fatalf("Cut(%d): %d, want %d", node, got, want)
	}
	a.same(t, "Cut")
	return got
}

// sent has a packet be sent, and be behind all.
func (a pair) sent(t *testing.T, ps ...api.Packet) {
	t.Helper()
	for _, p := range ps {
		was := a.x.Len()
		if err := a.send(t, p); err != nil || a.x.Len() != was+1 {
			t.Fatalf("Send: %v, Len %d, was %d", err, a.x.Len(), was)
		}
	}
}

// doubled has a packet be doubled.
func (a pair) doubled(t *testing.T, pick int) {
	t.Helper()
	was := a.x.Len()
	if err := a.double(t, pick); err != nil || a.x.Len() != was+1 {
		t.Fatalf("Double(%d): %v, Len %d, was %d", pick, err, a.x.Len(), was)
	}
}

// comes has the packet of this ID arrive.
func (a pair) comes(t *testing.T, pick int, id uint64) {
	t.Helper()
	was := a.x.Len()
	if p, ok := a.arrive(t, pick); !ok || p.ID != id || a.x.Len() != was-1 {
		t.Fatalf("Arrive(%d): %v, %v, Len %d, was %d; want the ID %d", pick, still(p), ok, a.x.Len(), was, id)
	}
}

// full has Send and Double be told that there is no room, and nothing change.
func (a pair) full(t *testing.T) {
	t.Helper()
	for _, pick := range picks(1024) {
		if err := a.double(t, pick); !errors.Is(err, api.ErrFull) || a.x.Len() != 1024 {
			t.Fatalf("Double(%d) of a full one: %v, Len %d", pick, err, a.x.Len())
		}
	}
	for _, p := range []api.Packet{{}, of(1, 2, 9999, "late"), of(-1, -1, 0, "")} {
		if err := a.send(t, p); !errors.Is(err, api.ErrFull) || a.x.Len() != 1024 {
			t.Fatalf("Send to a full one: %v, Len %d", err, a.x.Len())
		}
	}
}

// none has each call tell that nothing is on its way.
func (a pair) none(t *testing.T) {
	t.Helper()
	for _, pick := range picks(0) {
		if p, ok := a.arrive(t, pick); ok || still(p) != (item{}) || p.Data != nil {
			t.Fatalf("Arrive(%d) of an empty one: %v, %v", pick, still(p), ok)
		}
		if a.lose(t, pick) {
			t.Fatalf("Lose(%d) of an empty one: true", pick)
		}
		if err := a.double(t, pick); !errors.Is(err, api.ErrNotFound) {
			t.Fatalf("Double(%d) of an empty one: %v", pick, err)
		}
	}
	for _, node := range nodes {
		if n := a.cut(t, node); n != 0 {
			t.Fatalf("Cut(%d) of an empty one: %d", node, n)
		}
	}
	if a.x.Len() != 0 {
		t.Fatalf("an empty one: Len %d", a.x.Len())
	}
}

// drain has all packets arrive, from the front or from the back, and so sees what was on its way, and in which order.
func (a pair) drain(t *testing.T, backwards bool) {
	t.Helper()
	for n := a.x.Len(); n > 0; n-- {
		pick := 0
		if backwards {
			pick = -1
		}
		if _, ok := a.arrive(t, pick); !ok || a.x.Len() != n-1 {
			t.Fatalf("%d left: %v, Len %d", n, ok, a.x.Len())
		}
	}
	if _, ok := a.arrive(t, 0); ok || a.x.Len() != 0 {
		t.Fatalf("none left: %v, Len %d", ok, a.x.Len())
	}
}

// of is a packet, with numbers in it that follow from its ID.
func of(from, to int, id uint64, data string) api.Packet {
	return api.Packet{From: from, To: to, ID: id, Index: int(id%7) - 1, Count: int(id % 5), Data: []byte(data)}
}

// row is a pair with n packets, whose IDs are 0 to n - 1.
func row(t *testing.T, n int) pair {
	t.Helper()
	a := fresh()
	for k := range n {
		a.sent(t, of(k%4, k%3, uint64(k), word(k)))
	}
	return a
}

// word is data that no other number has.
func word(k int) string { return string([]byte{'<', byte(k >> 8), byte(k), '>'}) }

// picks are the edges of picks among n.
func picks(n int) []int {
	ps := []int{0, 1, 2, -1, -2, n - 1, n, n + 1, -n, -n - 1, -n + 1, 2*n - 1, 2 * n, 2*n + 1, -2 * n, -2*n - 1, 3 * n, n << 20, 1<<32 + n, -(n << 20), 1023, 1024, 1025}
	return append(ps, math.MaxInt, math.MaxInt-1, math.MaxInt-n, math.MinInt, math.MinInt+1, math.MinInt+n, 1<<31-1, 1<<31, 1<<32, -1<<31, -1<<32)
}

// scribble writes into bytes and into the room behind them.
func scribble(b []byte) {
	all := b[:cap(b)]
	for k := range all {
		all[k] ^= 0xa5
	}
}

// P17.1, P17.2: the chapter's example.
func TestExample(t *testing.T) {
	a := fresh()
	a.sent(t, of(1, 2, 'a', "a"), of(1, 2, 'b', "b"), of(1, 2, 'c', "c"))
	a.comes(t, 4, 'b')
	a.doubled(t, 1)
	a.comes(t, 0, 'a')
	a.comes(t, 0, 'c')
	a.comes(t, 0, 'c')
	a.none(t)
}

// P17.1, P17.2: a zero Wire is empty, tells so in each call, and can be used.
func TestZero(t *testing.T) {
	for _, pick := range picks(0) {
		var w Wire
		if p, ok := w.Arrive(pick); ok || p.Data != nil || still(p) != (item{}) || w.Len() != 0 {
			t.Error(pick, p, ok, w.Len())
		}
		if w.Lose(pick) || w.Len() != 0 {
			t.Error(pick, w.Len())
		}
		if err := w.Double(pick); !errors.Is(err, api.ErrNotFound) || w.Len() != 0 {
			t.Error(pick, err, w.Len())
		}
		if n := w.Cut(pick); n != 0 || w.Len() != 0 {
			t.Error(pick, n, w.Len())
		}
		if err := w.Send(of(1, 2, 3, "abc")); err != nil || w.Len() != 1 {
			t.Error(err, w.Len())
		}
		if p, ok := w.Arrive(pick); !ok || still(p) != still(of(1, 2, 3, "abc")) || w.Len() != 0 {
			t.Error(pick, p, ok, w.Len())
		}
	}
	fresh().none(t)
}

// P17.1, P17.2: with one packet each pick tells that one.
func TestOne(t *testing.T) {
	for _, pick := range picks(1) {
		a := row(t, 1)
		a.comes(t, pick, 0)
		a.none(t)
		a = row(t, 1)
		if !a.lose(t, pick) {
			t.Errorf("Lose(%d): false", pick)
		}
		a.none(t)
		a = row(t, 1)
		a.doubled(t, pick)
		a.comes(t, pick, 0)
		a.comes(t, pick, 0)
		a.none(t)
	}
}

// P17.1: a packet goes behind all; they arrive in the order in which they were sent, from the front, and backwards from the back.
func TestOrder(t *testing.T) {
	for _, n := range []int{1, 2, 3, 10, 100, 1024} {
		a := row(t, n)
		for k := range n {
			a.comes(t, 0, uint64(k))
		}
		a.none(t)
		a = row(t, n)
		for k := n - 1; k >= 0; k-- {
			a.comes(t, -1, uint64(k))
		}
		a.none(t)
		a = row(t, n)
		for k := n - 1; k >= 0; k-- {
			a.comes(t, k, uint64(k))
		}
		a.none(t)
	}
}

// P17.1, P17.2: packets are sent between those that arrive, which are taken off from the front, the back and the middle.
func TestBetween(t *testing.T) {
	a := row(t, 5)
	a.comes(t, 2, 2)
	a.comes(t, 2, 3)
	a.sent(t, of(0, 0, 5, "f"))
	a.comes(t, 3, 5)
	a.comes(t, 0, 0)
	a.sent(t, of(0, 0, 6, "g"), of(0, 0, 7, "h"))
	a.comes(t, 1, 4)
	a.comes(t, 1, 6)
	a.comes(t, 1, 7)
	a.comes(t, 1, 1)
	a.none(t)
}

// P17.1: the place that a pick tells, for rows of each length up to 12 and for every pick from -40 to 40: worked out by counting round, in steps of one.
func TestPicks(t *testing.T) {
	for n := 1; n <= 12; n++ {
		at := 0
		for pick := 0; pick <= 40; pick++ {
			row(t, n).comes(t, pick, uint64(at))
			if at++; at == n {
				at = 0
			}
		}
		at = 0
		for pick := 0; pick >= -40; pick-- {
			row(t, n).comes(t, pick, uint64(at))
			if at--; at < 0 {
				at = n - 1
			}
		}
	}
}

// P17.1: picks of 0, of how many there are and about it, of -1 and below, of the smallest and the greatest number, for each call that takes one.
func TestEdgePicks(t *testing.T) {
	for _, n := range []int{1, 2, 3, 4, 5, 7, 8, 10, 13} {
		for _, pick := range picks(n) {
			a := row(t, n)
			a.arrive(t, pick)
			a.drain(t, false)
			a = row(t, n)
			a.lose(t, pick)
			a.drain(t, true)
			a = row(t, n)
			a.doubled(t, pick)
			a.drain(t, false)
		}
	}
}

// P17.1: the same picks, said with the ID that each of them tells.
func TestKnownPicks(t *testing.T) {
	for _, c := range []struct {
		n, pick int
		id      uint64
	}{
		{3, 0, 0}, {3, 2, 2}, {3, 3, 0}, {3, 4, 1}, {3, -1, 2}, {3, -2, 1}, {3, -3, 0}, {3, -4, 2}, {3, -6, 0}, {3, -7, 2},
		{3, math.MaxInt, 1}, {3, math.MinInt, 1}, {3, math.MinInt + 1, 2},
		{10, math.MaxInt, 7}, {10, math.MinInt, 2}, {10, math.MaxInt - 1, 6}, {10, math.MinInt + 1, 3},
		{16, math.MaxInt, 15}, {16, math.MinInt, 0}, {1024, math.MaxInt, 1023}, {1024, math.MinInt, 0}, {1024, -1, 1023}, {1024, 1024, 0}, {1024, -1024, 0}, {1024, -1025, 1023}, {1023, 1023, 0}, {1023, -1024, 1022}, {1023, math.MaxInt, 7}, {1023, math.MinInt, 1015},
	} {
		a := row(t, c.n)
		a.comes(t, c.pick, c.id)
		b := row(t, c.n)
		if b.lose(t, c.pick); b.x.Len() != c.n-1 {
			t.Fatal(b.x.Len())
		}
		for k := range c.n {
			if uint64(k) != c.id {
				b.comes(t, 0, uint64(k))
			}
		}
		b.none(t)
	}
}

// P17.1: a pick counts by how many there are when it is told, not by how many there were.
func TestCountNow(t *testing.T) {
	for _, pick := range []int{5, 6, 7, -1, -2, -5, -6, -7, 1000, -1000, math.MaxInt, math.MinInt} {
		a := row(t, 6)
		for range 3 {
			a.arrive(t, pick)
			a.lose(t, pick)
			a.doubled(t, pick)
		}
		a.sent(t, of(9, 9, 99, "late"))
		a.cut(t, 1)
		for a.x.Len() > 0 {
			a.arrive(t, pick)
		}
		a.none(t)
	}
}

// P17.1, P17.2: 1023, 1024 and 1025 packets: the last of these has no room, and nothing changes by it.
func TestFull(t *testing.T) {
	for _, n := range []int{1023, 1024} {
		a := row(t, n)
		if a.x.Len() != n {
			t.Fatal(a.x.Len())
		}
		if n == 1024 {
			a.full(t)
		}
		a.drain(t, n == 1023)
	}
	a := row(t, 1023)
	a.sent(t, of(1, 2, 1023, "last"))
	a.full(t)
	a.comes(t, -1, 1023)
	a.drain(t, false)
}

// P17.1, P17.2: with 1024 on their way, behind an Arrive, a Lose and a Cut there is room again, for one or for as many as went.
func TestRoomAgain(t *testing.T) {
	for _, pick := range []int{0, 1, 500, 1022, 1023, 1024, -1, math.MinInt} {
		a := row(t, 1024)
		a.arrive(t, pick)
		a.sent(t, of(7, 7, 2000, "new"))
		a.full(t)
		a.lose(t, pick)
		a.sent(t, of(7, 7, 2001, "new"))
		a.full(t)
		a.lose(t, pick)
		a.doubled(t, pick)
		a.full(t)
		a.drain(t, pick == 0)
	}
	for _, node := range []int{0, 1, 2, 3} {
		a := row(t, 1024)
		gone := a.cut(t, node)
		for k := range gone {
			a.sent(t, of(7, 7, uint64(2000+k), "new"))
		}
		a.full(t)
		if a.cut(t, 7) != gone {
			t.Errorf("Cut(7) is not %d", gone)
		}
		for range gone {
			a.doubled(t, -1)
		}
		a.full(t)
		a.drain(t, node == 0)
	}
}

// P17.1: room is room again as often as packets go and come: more than 1024 in all, and behind all of them gone.
func TestManyInAll(t *testing.T) {
	a := fresh()
	for k := range 3000 {
		a.sent(t, of(1, 2, uint64(k), word(k)))
		if k%3 == 2 {
			a.comes(t, 0, uint64(k/3))
		}
		if a.x.Len() == 1024 {
			break
		}
	}
	a.full(t)
	if a.cut(t, 2) != 1024 {
		t.Error("Cut is not 1024")
	}
	a.none(t)
	for k := range 1024 {
		a.sent(t, of(1, 2, uint64(k), ""))
	}
	a.full(t)
}

// P17.2: Lose takes off just the packet that Arrive would tell; the others stay in their order.
func TestLose(t *testing.T) {
	for n := 1; n <= 9; n++ {
		for at := range n {
			a := row(t, n)
			if !a.lose(t, at) || a.x.Len() != n-1 {
				t.Fatal(a.x.Len())
			}
			for k := range n {
				if k != at {
					a.comes(t, 0, uint64(k))
				}
			}
			a.none(t)
		}
	}
}

// P17.2: Double of the first, of the last and of each between: the packet stays where it is, and one like it, all fields and the data, is behind all.
func TestDouble(t *testing.T) {
	for n := 1; n <= 9; n++ {
		for at := range n {
			a := row(t, n)
			a.doubled(t, at)
			for k := range n {
				a.comes(t, 0, uint64(k))
			}
			p, ok := a.arrive(t, 0)
			if !ok || still(p) != still(of(at%4, at%3, uint64(at), word(at))) {
				t.Errorf("the double of %d of %d: %v, %v", at, n, still(p), ok)
			}
			a.none(t)
		}
	}
}

// P17.2: a double is a packet as others: it may be doubled, lost and cut off, and the one that it is a double of stays.
func TestDoubleOfDouble(t *testing.T) {
	a := row(t, 2)
	a.doubled(t, 0)
	a.doubled(t, 2)
	a.doubled(t, -1)
	for _, id := range []uint64{0, 1, 0, 0, 0} {
		a.comes(t, 0, id)
	}
	a = row(t, 3)
	a.doubled(t, 1)
	a.lose(t, 1)
	a.comes(t, 2, 1)
	a.comes(t, 0, 0)
	a.comes(t, 0, 2)
	a = row(t, 3)
	a.doubled(t, 1)
	a.lose(t, -1)
	a.drain(t, false)
	a = fresh()
	a.sent(t, of(5, 6, 1, "a"), of(6, 7, 2, "b"))
	a.doubled(t, 0)
	a.doubled(t, 1)
	if n := a.cut(t, 5); n != 2 {
		t.Error(n)
	}
	a.comes(t, 0, 2)
	a.comes(t, 0, 2)
	a.none(t)
}

// P17.2: one packet doubled until there is no room; 1024 of it arrive.
func TestDoubleToFull(t *testing.T) {
	a := fresh()
	a.sent(t, of(3, 4, 5, "abc"))
	for k := range 1023 {
		a.doubled(t, k*k-500)
	}
	a.full(t)
	for range 1024 {
		a.comes(t, 77, 5)
	}
	a.none(t)
}

// P17.2: Double with 1023 on their way has room, with 1024 it has not, whichever is told.
func TestDoubleAtEdge(t *testing.T) {
	for _, pick := range []int{0, 1, 511, 1021, 1022, 1023, 1024, -1, -1023, -1024, math.MaxInt, math.MinInt} {
		a := row(t, 1023)
		a.doubled(t, pick)
		a.full(t)
		a.comes(t, -1, uint64(((pick%1023)+1023)%1023))
		a.drain(t, pick < 0)
	}
}

// P17.2: Cut of a node that packets are From, To, both, and neither; those that stay are in their order.
func TestCut(t *testing.T) {
	sent := []api.Packet{of(1, 2, 0, "a"), of(2, 1, 1, "b"), of(1, 1, 2, "c"), of(2, 2, 3, "d"), of(3, 2, 4, "e"), of(2, 3, 5, "f"), of(3, 1, 6, "g"), of(1, 3, 7, "h"), of(-1, 4, 8, "i"), of(4, -1, 9, "j")}
	for _, c := range []struct {
		node, gone int
		stay       []uint64
	}{
		{0, 0, []uint64{0, 1, 2, 3, 4, 5, 6, 7, 8, 9}},
		{1, 5, []uint64{3, 4, 5, 8, 9}},
		{2, 5, []uint64{2, 6, 7, 8, 9}},
		{3, 4, []uint64{0, 1, 2, 3, 8, 9}},
		{4, 2, []uint64{0, 1, 2, 3, 4, 5, 6, 7}},
		{-1, 2, []uint64{0, 1, 2, 3, 4, 5, 6, 7}},
		{-4, 0, []uint64{0, 1, 2, 3, 4, 5, 6, 7, 8, 9}},
		{5, 0, []uint64{0, 1, 2, 3, 4, 5, 6, 7, 8, 9}},
		{math.MinInt, 0, []uint64{0, 1, 2, 3, 4, 5, 6, 7, 8, 9}},
		{math.MaxInt, 0, []uint64{0, 1, 2, 3, 4, 5, 6, 7, 8, 9}},
	} {
		a := fresh()
		a.sent(t, sent...)
		if n := a.cut(t, c.node); n != c.gone || a.x.Len() != 10-c.gone {
			t.Errorf("Cut(%d): %d, Len %d", c.node, n, a.x.Len())
		}
		// A second time there are none of it.
		if n := a.cut(t, c.node); n != 0 {
			t.Errorf("Cut(%d) once more: %d", c.node, n)
		}
		for _, id := range c.stay {
			a.comes(t, 0, id)
		}
		a.none(t)
	}
}

// P17.2: Cut of all packets, From a node, To it, and both, and of none; then the wire is as a new one.
func TestCutAll(t *testing.T) {
	for _, n := range []int{1, 2, 10, 1023, 1024} {
		for way := range 4 {
			a := fresh()
			for k := range n {
				ends := [4][2]int{{5, 10 + k}, {10 + k, 5}, {5, 5}, {10 + k, 20 + k}}[way]
				a.sent(t, of(ends[0], ends[1], uint64(k), word(k)))
			}
			want := n
			if way == 3 {
				want = 0
			}
			if got := a.cut(t, 5); got != want || a.x.Len() != n-want {
				t.Errorf("Cut of %d, way %d: %d, Len %d", n, way, got, a.x.Len())
			}
			if want > 0 {
				a.none(t)
			}
			if a.x.Len() < 1024 {
				a.sent(t, of(5, 5, 7, "new"))
				a.comes(t, -1, 7)
			} else {
				a.full(t)
			}
			a.drain(t, false)
		}
	}
}

// P17.2: nodes may be any numbers: each of the edges is cut off by itself alone, as From and as To.
func TestCutEdges(t *testing.T) {
	for at, node := range nodes {
		a := fresh()
		for k, other := range nodes {
			a.sent(t, of(other, 77, uint64(2*k), "from"), of(78, other, uint64(2*k+1), "to"))
		}
		if n := a.cut(t, node); n != 2 {
			t.Errorf("Cut(%d): %d", node, n)
		}
		for k := range 2 * len(nodes) {
			if k/2 != at {
				a.comes(t, 0, uint64(k))
			}
		}
		a.none(t)
	}
	for _, node := range nodes {
		for _, other := range nodes {
			a := fresh()
			a.sent(t, of(node, other, 1, "a"), of(other, node, 2, "b"), of(other, other, 3, "c"), of(node, node, 4, "d"), of(77, 77, 5, "e"))
			want := 3
			if node == other {
				want = 4
			}
			if n := a.cut(t, node); n != want {
				t.Errorf("Cut(%d) beside %d: %d", node, other, n)
			}
			a.drain(t, false)
		}
	}
}

// P17.2: Cut looks at the nodes alone, not at the other numbers of a packet, nor at its place.
func TestCutNodesAlone(t *testing.T) {
	for _, node := range []int{1, 2, 3} {
		a := fresh()
		for k := range 5 {
			a.sent(t, api.Packet{From: 7, To: 8, ID: uint64(node), Index: node, Count: node, Data: []byte{byte(node), byte(k)}})
		}
		if n := a.cut(t, node); n != 0 {
			t.Errorf("Cut(%d): %d", node, n)
		}
		a.drain(t, false)
	}
}

// odd are packets of all kinds, also such as may not be by layer 15.
func odd() []api.Packet {
	ps := []api.Packet{{}, {Data: []byte{}}, {Data: []byte("a")}, {From: 1}, {To: 1}, {ID: 1}, {Index: 1}, {Count: 1}}
	for _, n := range nodes {
		ps = append(ps, api.Packet{From: n}, api.Packet{To: n}, api.Packet{Index: n, Count: 3}, api.Packet{Count: n}, api.Packet{From: n, To: n, Index: n, Count: n, Data: []byte("ab")})
	}
	for _, id := range ids {
		ps = append(ps, api.Packet{ID: id, Count: 1, Data: []byte{1}})
	}
	for _, n := range []int{32767, 32768, 32769, 1 << 17} {
		ps = append(ps, api.Packet{Count: 1, Data: bytes.Repeat([]byte("sigillum"), n/8+1)[:n]})
	}
	return ps
}

// P17.1, P17.2: any packet whatever is on its way as it is: alone, doubled, and all of them together.
func TestAnyPacket(t *testing.T) {
	all := fresh()
	for _, p := range odd() {
		a := fresh()
		a.sent(t, p)
		a.doubled(t, 0)
		a.arrive(t, 1)
		a.arrive(t, 0)
		a.none(t)
		all.sent(t, p)
	}
	for k := range odd() {
		all.doubled(t, k)
	}
	all.drain(t, false)
}

// P17.1: packets that are alike are several: each counts, and each arrives.
func TestAlike(t *testing.T) {
	a := fresh()
	for range 10 {
		a.sent(t, of(1, 2, 3, "same"))
	}
	a.sent(t, api.Packet{}, api.Packet{})
	if a.x.Len() != 12 {
		t.Error(a.x.Len())
	}
	a.lose(t, 3)
	a.doubled(t, 3)
	a.comes(t, 0, 3)
	a.drain(t, true)
}

// P17.1: wrong calls change nothing: what is on its way, and in which order, is what it was, of a full wire.
func TestFullUnchanged(t *testing.T) {
	a := row(t, 1024)
	for range 3 {
		a.full(t)
	}
	for k := range 1024 {
		a.comes(t, 0, uint64(k))
	}
	a.none(t)
}

// P17.1, W6: who later writes into the data of a packet that was handed in, or behind them, does not change what is on its way, nor what arrives.
func TestDataWritten(t *testing.T) {
	for _, doubled := range []bool{false, true} {
		a := fresh()
		var rooms [][]byte
		for k := range 6 {
			room := make([]byte, 4, 12)
			copy(room, word(k))
			p := of(1, 2, uint64(k), "")
			p.Data = room
			a.sent(t, p)
			if doubled {
				a.doubled(t, -1)
			}
			scribble(room)
			rooms = append(rooms, room)
		}
		got, _ := a.arrive(t, 0)
		was := still(got)
		for _, room := range rooms {
			scribble(room)
			scribble(room[:2])
		}
		if still(got) != was {
			t.Error("what arrived changed with what was handed in")
		}
		a.drain(t, doubled)
	}
}

// P17.1, W6: all packets handed in with their data in one room, which is written over each time.
func TestOneRoom(t *testing.T) {
	a := fresh()
	room := make([]byte, 8)
	for k := range 100 {
		copy(room, word(k))
		p := of(1, 2, uint64(k), "")
		p.Data = room[:4]
		a.sent(t, p)
	}
	clear(room)
	for k := range 100 {
		if p, _ := a.arrive(t, 0); string(p.Data) != word(k) {
			t.Fatalf("packet %d: %q", k, p.Data)
		}
	}
}

// P17.1, W6: neither the data that are handed in nor the room behind them are written to.
func TestRoomBehind(t *testing.T) {
	room := []byte("abcdefghijklmnopqrstuvwxyz")
	a := fresh()
	for k := range 5 {
		p := of(1, 2, uint64(k), "")
		p.Data = room[4*k : 4*k+6]
		a.sent(t, p)
		a.doubled(t, k)
	}
	a.lose(t, 1)
	for a.x.Len() > 0 {
		p, _ := a.arrive(t, 3)
		scribble(p.Data)
		_ = append(p.Data, 1)
	}
	if string(room) != "abcdefghijklmnopqrstuvwxyz" {
		t.Errorf("the room is %q", room)
	}
}

// P17.2, W6: what arrives is new memory: who writes into it changes nothing that is on its way, nothing that was handed in, and nothing else that arrived; a packet and its doubles do not share theirs.
func TestAnswerWritten(t *testing.T) {
	for first := range 6 {
		a := fresh()
		data := []byte("data")
		p := of(1, 2, 3, "")
		p.Data = data
		a.sent(t, p)
		a.doubled(t, 0)
		a.doubled(t, 0)
		a.doubled(t, 1)
		a.sent(t, p, of(4, 5, 6, "other"))
		var came []api.Packet
		for k := range 6 {
			p, _ := a.arrive(t, first*k)
			came = append(came, p)
			if k%2 == first%2 {
				scribble(p.Data)
				_ = append(p.Data[:0], "?????"...)
			}
		}
		for k, p := range came {
			was := still(p)
			for l, other := range came {
				if l != k {
					scribble(other.Data)
				}
			}
			if still(p) != was {
				t.Errorf("what arrived as %d changed with others", k)
			}
		}
		if string(data) != "data" {
			t.Error("what was handed in changed with what arrived")
		}
		a.none(t)
	}
}

// P17.2, W6: what arrived, sent once more, and from one wire to another, is a packet of its own each time.
func TestSentOn(t *testing.T) {
	a, b := fresh(), fresh()
	a.sent(t, of(1, 2, 3, "data"))
	for range 4 {
		p, _ := a.arrive(t, 0)
		a.sent(t, p)
		b.sent(t, p)
		scribble(p.Data)
	}
	a.drain(t, false)
	b.drain(t, false)
}

// W2: two Wires do not know of each other.
func TestTwo(t *testing.T) {
	a, b := row(t, 1024), row(t, 8)
	b.sent(t, of(1, 2, 99, "new"))
	a.full(t)
	a.cut(t, 1)
	b.doubled(t, 1)
	a.arrive(t, 5)
	b.lose(t, 2)
	a.drain(t, true)
	b.drain(t, false)
}

// W2: a copy of a Wire is one of its own: what is called of one is not seen in the other, one call or several; nor is what is written into packets that arrived.
func TestCopy(t *testing.T) {
	steps := []func(*Wire){
		func(w *Wire) { w.Send(of(8, 8, 88, "?")) },
		func(w *Wire) { w.Send(of(8, 8, 89, "?")) },
		func(w *Wire) { p, _ := w.Arrive(0); scribble(p.Data) },
		func(w *Wire) { p, _ := w.Arrive(-1); scribble(p.Data) },
		func(w *Wire) { p, _ := w.Arrive(1); scribble(p.Data) },
		func(w *Wire) { w.Lose(0) },
		func(w *Wire) { w.Lose(1) },
		func(w *Wire) { w.Double(0) },
		func(w *Wire) { w.Double(-1) },
		func(w *Wire) { w.Cut(1) },
		func(w *Wire) { w.Cut(8) },
		func(w *Wire) { w.Cut(0) },
	}
	for _, n := range []int{0, 1, 2, 3, 5, 8, 9} {
		for first := range steps {
			for second := range steps {
				for third := range steps {
					a := row(t, n)
					other := *a.x
					for _, k := range []int{first, second, third} {
						steps[k](&other)
						a.same(t, "a step of the copy")
					}
					a.drain(t, first%2 == 0)
				}
			}
		}
	}
}

// W2: a Wire and its copy both go on: each has what was called of it.
func TestBothGoOn(t *testing.T) {
	for _, n := range []int{0, 1, 3, 4, 7, 8} {
		a := row(t, n)
		twin := *a.x
		b := pair{&twin, a.m.twin()}
		a.sent(t, of(5, 5, 50, "a"))
		b.sent(t, of(6, 6, 60, "b"))
		a.sent(t, of(5, 5, 51, "a"))
		b.doubled(t, 0)
		a.doubled(t, -2)
		a.arrive(t, 0)
		b.arrive(t, -1)
		a.cut(t, 1)
		b.cut(t, 6)
		a.drain(t, false)
		b.drain(t, true)
	}
}

// strew is a source of numbers below n.
func strew(seed uint64) func(n int) int {
	state := seed + 17
	return func(n int) int {
		state = state*6364136223846793005 + 1442695040888963407
		return int(state>>33) % n
	}
}

// P17.1, P17.2: long strewn runs of all calls, with few packets and with many.
func TestStrewn(t *testing.T) {
	for seed := range uint64(300) {
		draw := strew(seed)
		a := fresh()
		eager := 1 + draw(6)
		for step := range 300 {
			pick := draw(1<<20) - 1<<19
			switch draw(6 + eager) {
			case 0, 1:
				if p, ok := a.arrive(t, pick); ok {
					scribble(p.Data)
				}
			case 2:
				a.lose(t, pick)
			case 3:
				a.double(t, pick)
			case 4:
				a.cut(t, draw(40)-2)
			case 5:
				edges := picks(a.x.Len())
				a.arrive(t, edges[draw(len(edges))])
			default:
				p := of(draw(20)-2, draw(20)-2, uint64(step), word(draw(1<<16)))
				a.send(t, p)
				scribble(p.Data)
			}
		}
		a.drain(t, seed%2 == 0)
	}
}

// P17.1, P17.2: strewn runs about the edge of 1024.
func TestStrewnFull(t *testing.T) {
	full := 0
	for seed := range uint64(4) {
		draw := strew(seed)
		a := row(t, 1018+draw(7))
		for step := range 300 {
			pick := draw(1<<20) - 1<<19
			switch draw(5) {
			case 0:
				a.arrive(t, pick)
			case 1:
				a.lose(t, pick)
			case 2, 3:
				if a.send(t, of(10+step, 500+step, uint64(step), word(step))) != nil {
					full++
				}
			default:
				if a.double(t, pick) != nil {
					full++
				}
			}
			if draw(60) == 0 {
				a.cut(t, 10+draw(step+1))
			}
		}
		a.drain(t, seed%2 == 0)
	}
	if full < 50 {
		t.Errorf("%d times full", full)
	}
}

// P17.1, P17.2: each run of four of thirteen steps, from none to three packets on their way, and all that are left behind it.
func TestRuns(t *testing.T) {
	steps := []func(a pair){
		func(a pair) { a.sent(t, of(1, 5, 70, "x")) },
		func(a pair) { a.sent(t, of(5, 0, 71, "")) },
		func(a pair) { a.sent(t, api.Packet{}) },
		func(a pair) { a.arrive(t, 0) },
		func(a pair) { a.arrive(t, -1) },
		func(a pair) { a.arrive(t, 1) },
		func(a pair) { a.lose(t, 0) },
		func(a pair) { a.lose(t, 2) },
		func(a pair) { a.double(t, 0) },
		func(a pair) { a.double(t, -2) },
		func(a pair) { a.cut(t, 0) },
		func(a pair) { a.cut(t, 1) },
		func(a pair) { a.cut(t, 5) },
	}
	for n := range 4 {
		for run := range 13 * 13 * 13 * 13 {
			a := row(t, n)
			for rest, k := run, 0; k < 4; rest, k = rest/13, k+1 {
				steps[rest%13](a)
			}
			for a.x.Len() > 0 {
				a.arrive(t, run%3)
			}
		}
	}
}

// P17.2: an error is the Errno itself, or wraps it; its number is told.
func TestErrors(t *testing.T) {
	var w Wire
	if n := api.Number(w.Double(0)); n != api.ErrNotFound {
		t.Error(n)
	}
	a := row(t, 1024)
	if n := api.Number(a.x.Send(api.Packet{})); n != api.ErrFull {
		t.Error(n)
	}
	if n := api.Number(a.x.Double(0)); n != api.ErrFull {
		t.Error(n)
	}
}
