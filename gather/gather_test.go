package gather

import (
	"bytes"
	"cmp"
	"math"
	"slices"
	"testing"

	"sigillum/api"
	"sigillum/frag"
)

// The edges of numbers that may be anything.
var (
	nodes = []int{0, 1, 2, -1, -2, 255, 256, 1 << 32, 1<<32 + 1, math.MinInt, math.MinInt + 1, math.MaxInt - 1, math.MaxInt}
	ids   = []uint64{0, 1, 2, 255, 256, 1 << 32, 1<<32 + 1, 1 << 63, math.MaxUint64 - 1, math.MaxUint64}
)

// key is what a message is told by.
type key struct {
	from, to int
	id       uint64
}

// entry is a message of the model: when it began, and the data by their places.
type entry struct {
	stamp, count int
	parts        map[int]string
}

// model keeps no order: which message began first it works out from their stamps.
type model struct {
	open  map[key]*entry
	clock int
}

func (m *model) add(p api.Packet) (string, bool) {
	if p.Count <= 0 || p.Count >= 257 || p.Index <= -1 || p.Index >= p.Count || len(p.Data) >= 32769 {
		return "", false
	}
	k := key{p.From, p.To, p.ID}
	e, is := m.open[k]
	if is {
		if _, there := e.parts[p.Index]; there || e.count != p.Count {
			return "", false
		}
	} else {
		if len(m.open) == 16 {
			delete(m.open, m.order()[0])
		}
		m.clock++
		e = &entry{m.clock, p.Count, map[int]string{}}
		m.open[k] = e
	}
	e.parts[p.Index] = string(p.Data)
	if len(e.parts) < e.count {
		return "", false
	}
	delete(m.open, k)
	all := ""
	for at := range e.count {
		all += e.parts[at]
	}
	return all, true
}

// order is the messages that have begun, the first one first.
func (m *model) order() []key {
	var ks []key
	for k := range m.open {
		ks = append(ks, k)
	}
	slices.SortFunc(ks, func(a, b key) int { return cmp.Compare(m.open[a].stamp, m.open[b].stamp) })
	return ks
}

// pair is a Gather, and the model of it.
type pair struct {
	x *Gather
	m *model
}

func fresh() pair { return pair{&Gather{}, &model{open: map[key]*entry{}}} }

// same holds Waiting against the model.
func (a pair) same(t *testing.T, after string) {
	t.Helper()
	for range 2 {
		if got := a.x.Waiting(); got != len(a.m.open) {
			t.Fatalf("after %s: Waiting %d, want %d", after, got, len(a.m.open))
		}
	}
}

// add hands a packet in and holds the answer against the model's; the packet must stay as it was.
func (a pair) add(t *testing.T, p api.Packet) ([]byte, bool) {
	t.Helper()
	was := bytes.Clone(p.Data)
	want, whole := a.m.add(p)
	got, ok := a.x.Add(p)
	if ok != whole || string(got) != want {
		t.Fatalf("Add of %v: %d bytes, %v; want %d, %v", head(p), len(got), ok, len(want), whole)
	}
	if !bytes.Equal(p.Data, was) {
		t.Fatalf("Add of %v changed its data", head(p))
	}
	a.same(t, "Add")
	return got, ok
}

// refused has a packet be let go, and nothing change that Waiting tells.
func (a pair) refused(t *testing.T, p api.Packet) {
	t.Helper()
	was := a.x.Waiting()
	if got, ok := a.add(t, p); ok || len(got) != 0 || a.x.Waiting() != was {
		t.Fatalf("Add of %v: %d bytes, %v, Waiting %d, was %d", head(p), len(got), ok, a.x.Waiting(), was)
	}
}

// waits has a packet be kept, and its message not be whole.
func (a pair) waits(t *testing.T, p api.Packet) {
	t.Helper()
	if got, ok := a.add(t, p); ok || len(got) != 0 {
		t.Fatalf("Add of %v: %q, %v", head(p), got, ok)
	}
}

// whole has a packet be the last one that its message needs.
func (a pair) whole(t *testing.T, p api.Packet, want string) []byte {
	t.Helper()
	got, ok := a.add(t, p)
	if !ok || string(got) != want {
		t.Fatalf("Add of %v: %q, %v, want %q", head(p), got, ok, want)
	}
	return got
}

func (a pair) forget(t *testing.T) {
	t.Helper()
	a.x.Forget()
	clear(a.m.open)
	a.same(t, "Forget")
	if a.x.Waiting() != 0 {
		t.Fatalf("after Forget: Waiting %d", a.x.Waiting())
	}
}

// finish hands in all packets that are missing, and so sees all data that are kept: of the messages in the order in which they began, or backwards.
func (a pair) finish(t *testing.T, backwards bool) {
	t.Helper()
	ks := a.m.order()
	if backwards {
		slices.Reverse(ks)
	}
	for _, k := range ks {
		e := a.m.open[k]
		for at := range e.count {
			if _, there := e.parts[at]; !there {
				a.add(t, api.Packet{From: k.from, To: k.to, ID: k.id, Index: at, Count: e.count, Data: []byte{'<', byte(at), '>'}})
			}
		}
	}
	if a.x.Waiting() != 0 {
		t.Fatalf("after all came: Waiting %d", a.x.Waiting())
	}
}

// crowd has n new messages begin, one by one, each of which may have the first one be forgotten.
func (a pair) crowd(t *testing.T, n int) {
	t.Helper()
	for k := range n {
		p := of(-77, -78, uint64(k), 0, 2, "new")
		a.waits(t, p)
		a.refused(t, p)
	}
}

// drain sees which messages began first: so many more begin, and then all that are left are made whole.
func (a pair) drain(t *testing.T, more int) {
	t.Helper()
	a.crowd(t, more)
	a.finish(t, more%2 == 1)
}

// heading is a packet without its data.
type heading struct {
	from, to     int
	id           uint64
	index, count int
}

func head(p api.Packet) heading { return heading{p.From, p.To, p.ID, p.Index, p.Count} }

// of is a packet.
func of(from, to int, id uint64, index, count int, data string) api.Packet {
	return api.Packet{From: from, To: to, ID: id, Index: index, Count: count, Data: []byte(data)}
}

// row is a pair in which n messages have begun: 0 to n - 1, of three packets each, the middle one of which is there.
func row(t *testing.T, n int) pair {
	t.Helper()
	a := fresh()
	for k := range n {
		a.waits(t, of(1, 2, uint64(k), 1, 3, letter(k)))
	}
	if a.x.Waiting() != min(n, 16) {
		t.Fatalf("%d begun: Waiting %d", n, a.x.Waiting())
	}
	return a
}

// end hands in what is left of one of a row's messages, which must be whole by it.
func (a pair) end(t *testing.T, k int) {
	t.Helper()
	a.waits(t, of(1, 2, uint64(k), 2, 3, ">"))
	a.whole(t, of(1, 2, uint64(k), 0, 3, "<"), "<"+letter(k)+">")
}

func letter(k int) string { return string([]byte{'a' + byte(k)}) }

// text is n bytes, of which no two pieces that are looked at are alike.
func text(n int) []byte {
	b := make([]byte, n)
	for k := range b {
		b[k] = byte(k) ^ byte(k>>8)*7 ^ byte(k>>16)*31
	}
	return b
}

// cut is the packets of bytes.
func cut(t *testing.T, b []byte, from, to int, id uint64, size int) []api.Packet {
	t.Helper()
	ps, err := frag.Split(b, from, to, id, size)
	if err != nil {
		t.Fatal(err)
	}
	return ps
}

// gathered adds all packets of a message, in the order of the places: only the last one makes it whole.
func (a pair) gathered(t *testing.T, ps []api.Packet, places []int, want []byte) {
	t.Helper()
	for n, at := range places {
		if n < len(places)-1 {
			a.waits(t, ps[at])
		} else {
			a.whole(t, ps[at], string(want))
		}
	}
}

// up is the places from 0 to n - 1.
func up(n int) []int {
	places := make([]int, n)
	for k := range places {
		places[k] = k
	}
	return places
}

// down is the same backwards.
func down(n int) []int {
	places := up(n)
	slices.Reverse(places)
	return places
}

// orders calls with each order of the places from 0 to n - 1.
func orders(n int, call func([]int)) {
	places := up(n)
	var from func(k int)
	from = func(k int) {
		if k == n {
			call(slices.Clone(places))
			return
		}
		for l := k; l < n; l++ {
			places[k], places[l] = places[l], places[k]
			from(k + 1)
			places[k], places[l] = places[l], places[k]
		}
	}
	from(0)
}

// scribble writes into bytes and into the room behind them.
func scribble(b []byte) {
	all := b[:cap(b)]
	for k := range all {
		all[k] ^= 0xa5
	}
}

// P16.1: the chapter's example.
func TestExample(t *testing.T) {
	a := fresh()
	for range 3 {
		a.waits(t, of(1, 2, 3, 1, 2, "b"))
		a.whole(t, of(1, 2, 3, 0, 2, "a"), "ab")
	}
	a.waits(t, of(1, 2, 3, 0, 2, "a"))
	if a.x.Waiting() != 1 {
		t.Error(a.x.Waiting())
	}
}

// P16.1, P16.2: a zero Gather has none, and can be used.
func TestZero(t *testing.T) {
	var g Gather
	if g.Waiting() != 0 {
		t.Error(g.Waiting())
	}
	g.Forget()
	if g.Waiting() != 0 {
		t.Error(g.Waiting())
	}
	if b, ok := g.Add(api.Packet{}); ok || len(b) != 0 || g.Waiting() != 0 {
		t.Error("a zero packet:", b, ok, g.Waiting())
	}
	if b, ok := g.Add(of(0, 0, 0, 0, 1, "ab")); !ok || string(b) != "ab" || g.Waiting() != 0 {
		t.Error(b, ok, g.Waiting())
	}
}

// P16.1: a message of one packet is whole at once, with data of each length that may be, and as often as it comes.
func TestOne(t *testing.T) {
	a := fresh()
	for _, n := range []int{0, 1, 2, 100, 32767, 32768} {
		b := text(n)
		for range 3 {
			a.whole(t, api.Packet{From: 1, To: 2, ID: 3, Count: 1, Data: b}, string(b))
		}
	}
	a.whole(t, api.Packet{Count: 1}, "")
	a.whole(t, api.Packet{Count: 1, Data: []byte{}}, "")
	if a.x.Waiting() != 0 {
		t.Error(a.x.Waiting())
	}
}

// P16.1: the packets of a message in every order: from two on to six, the data of lengths of their own.
func TestOrders(t *testing.T) {
	for n := 1; n <= 6; n++ {
		var ps []api.Packet
		var want []byte
		for k := range n {
			data := text(40)[7*k : 7*k+k%4]
			ps = append(ps, of(5, 6, 7, k, n, string(data)))
			want = append(want, data...)
		}
		a := fresh()
		orders(n, func(places []int) { a.gathered(t, ps, places, want) })
	}
}

// P16.1: messages of up to 256 packets in order, backwards, from the middle on, and by leaps.
func TestMany(t *testing.T) {
	for _, n := range []int{1, 2, 3, 16, 17, 64, 100, 255, 256} {
		a := fresh()
		b := text(3*n - 1)
		ps := cut(t, b, -1, -2, 1<<63, 3)
		a.gathered(t, ps, up(n), b)
		a.gathered(t, ps, down(n), b)
		a.gathered(t, ps, append(up(n)[n/2:], up(n)[:n/2]...), b)
		for _, leap := range []int{7, 11, 101, 251} {
			if n%leap == 0 {
				continue
			}
			places := up(n)
			for k := range places {
				places[k] = k * leap % n
			}
			a.gathered(t, ps, places, b)
		}
	}
}

// P16.1: the longest message there is: 256 packets of 32768 bytes.
func TestLongest(t *testing.T) {
	b := text(256 * 32768)
	ps := cut(t, b, 1, 2, 3, 32768)
	for _, places := range [][]int{up(256), down(256)} {
		var g Gather
		for n, at := range places {
			got, ok := g.Add(ps[at])
			if n < 255 && (ok || len(got) != 0 || g.Waiting() != 1) {
				t.Fatalf("packet %d: %d bytes, %v, Waiting %d", n, len(got), ok, g.Waiting())
			}
			if n == 255 && (!ok || !bytes.Equal(got, b) || g.Waiting() != 0) {
				t.Fatalf("the last one: %d bytes, %v, Waiting %d", len(got), ok, g.Waiting())
			}
		}
	}
}

// P16.1: any one packet that is missing keeps a message from being whole.
func TestMissing(t *testing.T) {
	for _, n := range []int{2, 3, 9, 256} {
		ps := cut(t, text(n), 1, 2, 3, 1)
		for missing := range n {
			var g Gather
			for k, p := range ps {
				if k == missing {
					continue
				}
				if b, ok := g.Add(p); ok || len(b) != 0 {
					t.Fatalf("%d packets without %d: %d bytes", n, missing, len(b))
				}
			}
			if g.Waiting() != 1 {
				t.Errorf("%d packets without %d: Waiting %d", n, missing, g.Waiting())
			}
			if b, ok := g.Add(ps[missing]); !ok || !bytes.Equal(b, text(n)) || g.Waiting() != 0 {
				t.Errorf("%d packets, the last %d: %d bytes, %v, Waiting %d", n, missing, len(b), ok, g.Waiting())
			}
		}
	}
}

// P16.1: packets with no data, nil or not, count as others do, among others and where all are so; each is there when it has come.
func TestNoData(t *testing.T) {
	for _, data := range [][4]string{{"", "", "", ""}, {"a", "", "", "b"}, {"", "a", "b", ""}, {"", "", "ab", ""}, {"a", "b", "c", ""}, {"", "b", "c", "d"}} {
		want := data[0] + data[1] + data[2] + data[3]
		var ps []api.Packet
		for k, s := range data {
			ps = append(ps, of(1, 2, 3, k, 4, s))
			if s == "" && k%2 == 1 {
				ps[k].Data = nil
			}
		}
		a := fresh()
		orders(4, func(places []int) {
			for n, at := range places {
				if n == 3 {
					a.whole(t, ps[at], want)
					continue
				}
				a.waits(t, ps[at])
				for _, earlier := range places[:n+1] {
					p := ps[earlier]
					a.refused(t, p)
					p.Data = []byte("other")
					a.refused(t, p)
				}
			}
		})
	}
}

// P16.1: From, To and ID may be any numbers.
func TestAnyNumbers(t *testing.T) {
	a := fresh()
	for _, from := range nodes {
		for _, to := range nodes {
			for _, id := range ids {
				a.whole(t, of(from, to, id, 0, 1, "one"), "one")
				a.waits(t, of(from, to, id, 2, 3, "c"))
				a.waits(t, of(from, to, id, 0, 3, "a"))
				a.whole(t, of(from, to, id, 1, 3, "b"), "abc")
			}
		}
	}
}

// told has messages that are told by these be gathered beside one another: the packets come by turns, and each has its own data.
func told(t *testing.T, ks []key, count int) {
	t.Helper()
	for _, places := range [][]int{up(count), down(count)} {
		a := fresh()
		for n, at := range places {
			for which, k := range ks {
				p := of(k.from, k.to, k.id, at, count, letter(which)+letter(at))
				if got, ok := a.add(t, p); ok != (n == count-1) || ok && len(got) != 2*count {
					t.Fatalf("%v, packet %d: %q, %v", k, at, got, ok)
				}
			}
			if n < count-1 && a.x.Waiting() != len(ks) {
				t.Fatalf("%v: Waiting %d", ks, a.x.Waiting())
			}
		}
	}
}

// P16.1: messages of one From and ID but another To, of one To and ID but another From, and of other IDs, are others; 16 of these at a time, with all edges.
func TestToldBy(t *testing.T) {
	var tos, froms, others, both []key
	for _, n := range nodes {
		tos = append(tos, key{1, n, 7})
		froms = append(froms, key{n, 1, 7})
		both = append(both, key{n, n, 7})
	}
	for _, id := range ids {
		others = append(others, key{1, 2, id})
	}
	for _, ks := range [][]key{tos, froms, others, both} {
		for count := 2; count <= 4; count++ {
			told(t, ks, count)
		}
	}
	told(t, []key{{1, 2, 3}, {2, 1, 3}, {1, 3, 2}, {3, 1, 2}, {2, 3, 1}, {3, 2, 1}}, 3)
	told(t, []key{{0, 0, 0}, {0, 0, 1}, {0, 1, 0}, {1, 0, 0}, {0, -1, 0}, {-1, 0, 0}, {0, 0, math.MaxUint64}}, 3)
	told(t, []key{{1, 0, 0}, {0, 1, 0}, {1, 1, 0}, {11, 1, 0}, {1, 11, 0}, {111, 0, 0}, {1, 1, 10}}, 2)
}

// P16.1: any two of the edges are told apart by each of From, To and ID alone.
func TestToldApart(t *testing.T) {
	for _, v := range nodes {
		for _, w := range nodes {
			if v == w {
				continue
			}
			told(t, []key{{v, 5, 6}, {w, 5, 6}}, 2)
			told(t, []key{{5, v, 6}, {5, w, 6}}, 2)
			told(t, []key{{v, w, 6}, {w, v, 6}}, 2)
		}
	}
	for _, v := range ids {
		for _, w := range ids {
			if v != w {
				told(t, []key{{5, 6, v}, {5, 6, w}}, 2)
			}
		}
	}
}

// P16.1: packets of 16 messages of many counts, mixed: each is whole by its own last packet.
func TestMixed(t *testing.T) {
	for seed := range uint64(60) {
		draw := strew(seed)
		var all []api.Packet
		for k := range 16 {
			b := text(draw(200))
			all = append(all, cut(t, b, draw(2), k/2, uint64(k), 1+draw(40))...)
		}
		for k := range all {
			l := k + draw(len(all)-k)
			all[k], all[l] = all[l], all[k]
		}
		a := fresh()
		whole := 0
		for _, p := range all {
			if _, ok := a.add(t, p); ok {
				whole++
			}
		}
		if whole != 16 || a.x.Waiting() != 0 {
			t.Errorf("seed %d: %d whole, Waiting %d", seed, whole, a.x.Waiting())
		}
	}
}

// P16.1, P16.2: 15 and 16 messages may have begun, and none is forgotten; by a seventeenth the first one is.
func TestSixteen(t *testing.T) {
	for _, n := range []int{1, 2, 15, 16} {
		for _, backwards := range []bool{false, true} {
			a := row(t, n)
			order := up(n)
			if backwards {
				order = down(n)
			}
			for done, k := range order {
				a.end(t, k)
				if a.x.Waiting() != n-done-1 {
					t.Errorf("Waiting %d", a.x.Waiting())
				}
			}
		}
	}
	for n := 17; n <= 40; n++ {
		a := row(t, n)
		for k := n - 16; k < n; k++ {
			a.end(t, k)
		}
		if a.x.Waiting() != 0 {
			t.Errorf("Waiting %d", a.x.Waiting())
		}
	}
}

// P16.1: of a message that was forgotten nothing is there: a packet of it begins it anew, and has the next one be forgotten.
func TestForgotten(t *testing.T) {
	a := row(t, 17)
	a.waits(t, of(1, 2, 0, 0, 3, "<"))
	a.waits(t, of(1, 2, 0, 2, 3, ">"))
	if a.x.Waiting() != 16 {
		t.Fatal(a.x.Waiting())
	}
	a.waits(t, of(1, 2, 1, 0, 3, "<"))
	a.waits(t, of(1, 2, 1, 2, 3, ">"))
	a.whole(t, of(1, 2, 0, 1, 3, "new"), "<new>")
	a.whole(t, of(1, 2, 1, 1, 3, "new"), "<new>")
	for k := 3; k < 17; k++ {
		a.end(t, k)
	}
	if a.x.Waiting() != 0 {
		t.Error(a.x.Waiting())
	}
}

// P16.1: the one that began first is forgotten, whenever packets of it came last, and however few are missing.
func TestFirstBegun(t *testing.T) {
	a := row(t, 16)
	for k := 15; k >= 0; k-- {
		a.waits(t, of(1, 2, uint64(k), 2, 3, ">"))
	}
	for k := range 16 {
		a.waits(t, of(9, 9, uint64(k), 0, 2, "a"))
		// The first of those that are left has one packet missing; it was the last to have one come.
		for l := k + 1; l < 16; l++ {
			a.refused(t, of(1, 2, uint64(l), 2, 3, "?"))
		}
		if a.x.Waiting() != 16 {
			t.Fatal(a.x.Waiting())
		}
	}
	for k := range 16 {
		a.whole(t, of(9, 9, uint64(k), 1, 2, "b"), "ab")
	}
	if a.x.Waiting() != 0 {
		t.Error(a.x.Waiting())
	}
}

// P16.1: which message is the first does not hang on its numbers: the ones of the smallest and the greatest go when it is their turn.
func TestFirstByTime(t *testing.T) {
	for turn := range 16 {
		a := fresh()
		for k := range 16 {
			n := (k*7 + turn) % 16
			a.waits(t, of(nodes[n%len(nodes)], nodes[(n+5)%len(nodes)], uint64(n)<<60, 0, 2, letter(n)))
		}
		for k := range 16 {
			a.waits(t, of(-5, -6, uint64(k), 0, 2, "a"))
			for l := k + 1; l < 16; l++ {
				n := (l*7 + turn) % 16
				a.refused(t, of(nodes[n%len(nodes)], nodes[(n+5)%len(nodes)], uint64(n)<<60, 0, 2, "?"))
			}
		}
		a.finish(t, turn%2 == 0)
	}
}

// P16.1: a seventeenth that is whole by its one packet has the first one be forgotten, too; 15 are left then, and a sixteenth has room.
func TestWholeSeventeenth(t *testing.T) {
	for _, data := range []string{"", "one"} {
		a := row(t, 16)
		a.whole(t, of(1, 2, 99, 0, 1, data), data)
		if a.x.Waiting() != 15 {
			t.Fatal(a.x.Waiting())
		}
		// With 15 begun another one such forgets none.
		a.whole(t, of(1, 2, 99, 0, 1, data), data)
		if a.x.Waiting() != 15 {
			t.Fatal(a.x.Waiting())
		}
		// The first one begins anew, behind all others.
		a.waits(t, of(1, 2, 0, 0, 3, "<"))
		a.waits(t, of(1, 2, 0, 2, 3, ">"))
		if a.x.Waiting() != 16 {
			t.Fatal(a.x.Waiting())
		}
		a.whole(t, of(1, 2, 99, 0, 1, data), data)
		a.whole(t, of(1, 2, 0, 1, 3, "="), "<=>")
		for k := 2; k < 16; k++ {
			a.end(t, k)
		}
		if a.x.Waiting() != 0 {
			t.Error(a.x.Waiting())
		}
	}
}

// P16.1: with 16 begun, each one that is whole by one packet has the first of them be forgotten; with 15 begun it has none.
func TestWholeMany(t *testing.T) {
	a := row(t, 16)
	a.whole(t, of(3, 3, 3, 0, 1, "x"), "x")
	for k := 1; k < 16; k++ {
		a.waits(t, of(4, 4, uint64(k), 0, 2, "a"))
		if a.x.Waiting() != 16 {
			t.Fatal(a.x.Waiting())
		}
		a.whole(t, of(3, 3, 3, 0, 1, "x"), "x")
		if a.x.Waiting() != 15 {
			t.Fatal(a.x.Waiting())
		}
	}
	for k := 1; k < 16; k++ {
		a.whole(t, of(4, 4, uint64(k), 1, 2, "b"), "ab")
	}
}

// P16.1: with 16 begun, packets of these forget none: neither one that is kept, nor one that makes its message whole; then one more has room, and a second one has not.
func TestSixteenGoOn(t *testing.T) {
	for k := range 16 {
		a := row(t, 16)
		a.end(t, k)
		if a.x.Waiting() != 15 {
			t.Fatal(a.x.Waiting())
		}
		a.waits(t, of(9, 9, 1, 0, 2, "a"))
		if a.x.Waiting() != 16 {
			t.Fatal(a.x.Waiting())
		}
		a.waits(t, of(9, 9, 2, 0, 2, "a"))
		if a.x.Waiting() != 16 {
			t.Fatal(a.x.Waiting())
		}
		gone := 0
		if k == 0 {
			gone = 1
		}
		for l := range 16 {
			if l != k && l != gone {
				a.end(t, l)
			}
		}
		a.whole(t, of(9, 9, 1, 1, 2, "b"), "ab")
		a.whole(t, of(9, 9, 2, 1, 2, "b"), "ab")
		if a.x.Waiting() != 0 {
			t.Error(a.x.Waiting())
		}
	}
}

// P16.1: a message that was whole is forgotten: its packets begin it anew, with the same Count or another, and with nothing of before.
func TestAnewWhole(t *testing.T) {
	for count := 1; count <= 4; count++ {
		for next := 1; next <= 4; next++ {
			a := fresh()
			for _, n := range []int{count, next, count} {
				want := ""
				for k := range n {
					want += letter(n) + letter(k)
					p := of(1, 2, 3, k, n, letter(n)+letter(k))
					if k == n-1 {
						a.whole(t, p, want)
					} else {
						a.waits(t, p)
						a.refused(t, p)
					}
				}
				if a.x.Waiting() != 0 {
					t.Fatal(a.x.Waiting())
				}
			}
		}
	}
}

// P16.1: a message that began anew is behind all that began ahead of that.
func TestAnewBehind(t *testing.T) {
	for k := range 16 {
		a := row(t, 16)
		a.end(t, k)
		a.waits(t, of(1, 2, uint64(k), 1, 3, letter(k)))
		for n := range 15 {
			a.waits(t, of(9, 9, uint64(n), 0, 2, "a"))
		}
		a.end(t, k)
		if a.x.Waiting() != 15 {
			t.Error(a.x.Waiting())
		}
	}
}

// P16.1: a message that was forgotten, by another one or by Forget, begins anew with another Count; a packet with the one that it had does not fit any more.
func TestAnewForgotten(t *testing.T) {
	for _, by := range []bool{false, true} {
		for _, count := range []int{1, 2, 4, 256} {
			a := row(t, 16)
			if by {
				a.forget(t)
			} else {
				a.waits(t, of(9, 9, 9, 0, 2, "a"))
			}
			if count == 1 {
				a.whole(t, of(1, 2, 0, 0, 1, "one"), "one")
				a.waits(t, of(1, 2, 0, 0, 3, "<"))
				continue
			}
			a.waits(t, of(1, 2, 0, 0, count, "<"))
			a.refused(t, of(1, 2, 0, 1, 3, "?"))
			a.refused(t, of(1, 2, 0, 2, 3, "?"))
			want := "<"
			for k := 1; k < count-1; k++ {
				a.waits(t, of(1, 2, 0, k, count, "-"))
				want += "-"
			}
			a.whole(t, of(1, 2, 0, count-1, count, ">"), want+">")
		}
	}
}

// mays are packets that may not be, of a message that has begun, and of one that has not.
func mays() []api.Packet {
	var ps []api.Packet
	for _, id := range []uint64{0, 7, 15, 99} {
		for _, count := range []int{0, -1, -2, -3, -256, 257, 258, 1 << 16, 1<<16 + 3, 1 << 32, 1<<32 + 3, math.MinInt, math.MinInt + 1, math.MaxInt - 1, math.MaxInt} {
			for _, index := range []int{0, 1, 2, -1, count - 1, count} {
				ps = append(ps, of(1, 2, id, index, count, "?"))
			}
		}
		for _, count := range []int{1, 2, 3, 4, 256} {
			for _, index := range []int{-1, -2, -256, count, count + 1, 256, 257, 1 << 32, 1<<32 + 1, -1 << 32, math.MinInt, math.MinInt + 1, math.MaxInt - 1, math.MaxInt} {
				ps = append(ps, of(1, 2, id, index, count, "?"))
			}
			for _, n := range []int{32769, 32770, 65536, 65537} {
				p := of(1, 2, id, count-1, count, "")
				p.Data = make([]byte, n)
				ps = append(ps, p)
			}
		}
	}
	return append(ps, api.Packet{}, of(1, 2, 99, 0, 0, ""), of(1, 2, 0, 0, 0, ""))
}

// P16.1: packets that may not be are let go, and nothing changes, with no message, some, 15 and 16 begun.
func TestMayNot(t *testing.T) {
	for _, n := range []int{0, 1, 8, 15, 16} {
		for _, p := range mays() {
			a := row(t, n)
			a.refused(t, p)
			if a.x.Waiting() != n {
				t.Fatal(a.x.Waiting())
			}
			for k := range n {
				a.end(t, k)
			}
			a.refused(t, p)
		}
	}
}

// P16.1: after each packet that is let go the order in which messages began is what it was.
func TestRefusedOrder(t *testing.T) {
	wrong := append(mays()[:20], misfits()...)
	wrong = append(wrong, twice()...)
	for more := range 17 {
		a := row(t, 16)
		for _, p := range wrong {
			a.refused(t, p)
		}
		a.drain(t, more)
	}
}

// misfits are packets of a row's messages with another Count than these have.
func misfits() []api.Packet {
	var ps []api.Packet
	for k := range 16 {
		for _, count := range []int{1, 2, 4, 5, 255, 256} {
			for _, index := range []int{0, 1, 2, 3, count - 1} {
				if index < count {
					ps = append(ps, of(1, 2, uint64(k), index, count, "?"))
				}
			}
		}
	}
	return ps
}

// P16.1: a packet of another Count than its message's is let go, one that would be a message by itself, too; nothing changes.
func TestOtherCount(t *testing.T) {
	for _, n := range []int{1, 15, 16} {
		for _, p := range misfits() {
			if p.ID >= uint64(n) {
				continue
			}
			a := row(t, n)
			a.refused(t, p)
			if a.x.Waiting() != n {
				t.Fatal(a.x.Waiting())
			}
			for k := range n {
				a.end(t, k)
			}
		}
	}
}

// P16.1: the Count is that of the first packet that came, whichever Index it has, and however many others tell another one.
func TestCountOfFirst(t *testing.T) {
	for count := 2; count <= 5; count++ {
		for first := range count {
			a := fresh()
			a.waits(t, of(1, 2, 3, first, count, letter(first)))
			for other := 1; other <= 6; other++ {
				for k := range other {
					if other != count {
						a.refused(t, of(1, 2, 3, k, other, "?"))
					}
				}
			}
			a.finish(t, false)
		}
	}
}

// twice are packets that are there in a row, with the same data and with others.
func twice() []api.Packet {
	var ps []api.Packet
	for k := range 16 {
		for _, data := range []string{letter(k), "?", "", "longer than it"} {
			ps = append(ps, of(1, 2, uint64(k), 1, 3, data))
		}
	}
	return ps
}

// P16.1: a packet whose Index is there already is let go, with the same data and with others; the first data stay.
func TestTwice(t *testing.T) {
	for _, n := range []int{1, 15, 16} {
		for _, p := range twice() {
			if p.ID >= uint64(n) {
				continue
			}
			a := row(t, n)
			a.refused(t, p)
			a.refused(t, p)
			if a.x.Waiting() != n {
				t.Fatal(a.x.Waiting())
			}
			for k := range n {
				a.end(t, k)
			}
		}
	}
}

// P16.1: packets that are there, however often they come again, do not make a message whole that has one missing.
func TestEachTwice(t *testing.T) {
	for _, n := range []int{2, 3, 5, 40} {
		for _, places := range [][]int{up(n), down(n)} {
			a := fresh()
			ps := cut(t, text(2*n), 1, 2, 3, 2)
			for at, k := range places {
				if at == n-1 {
					a.whole(t, ps[k], string(text(2*n)))
					continue
				}
				a.waits(t, ps[k])
				for range n {
					for _, l := range places[:at+1] {
						a.refused(t, ps[l])
					}
				}
			}
			// It was whole: what comes once more begins it anew.
			a.waits(t, ps[0])
			if a.x.Waiting() != 1 {
				t.Error(a.x.Waiting())
			}
		}
	}
}

// P16.2: Forget of none, of one, of 15 and of 16, once and twice: none are left, and what comes behind it begins anew.
func TestForget(t *testing.T) {
	for _, n := range []int{0, 1, 2, 15, 16, 17} {
		for times := 1; times <= 2; times++ {
			a := row(t, n)
			for range times {
				a.forget(t)
			}
			for k := range n {
				a.waits(t, of(1, 2, uint64(k), 0, 3, "<"))
				a.waits(t, of(1, 2, uint64(k), 2, 3, ">"))
				if a.x.Waiting() != k+1 && k < 16 {
					t.Fatal(a.x.Waiting())
				}
			}
			for k := max(0, n-16); k < n; k++ {
				a.whole(t, of(1, 2, uint64(k), 1, 3, "new"), "<new>")
			}
			a.forget(t)
			a.whole(t, of(1, 2, 0, 0, 1, "one"), "one")
		}
	}
}

// P16.2: after Forget there is room for 16, and the first of the new ones is the first to be forgotten.
func TestForgetRoom(t *testing.T) {
	a := row(t, 16)
	a.forget(t)
	for k := range 17 {
		a.waits(t, of(9, 9, uint64(k), 1, 2, "b"))
		if a.x.Waiting() != min(k+1, 16) {
			t.Fatal(a.x.Waiting())
		}
	}
	for k := 1; k < 17; k++ {
		a.whole(t, of(9, 9, uint64(k), 0, 2, "a"), "ab")
	}
	a.forget(t)
}

// P16.1, W6: who later writes into the data of a packet that was handed in, or behind them, does not change what was kept, nor what was answered.
func TestDataWritten(t *testing.T) {
	for _, n := range []int{1, 2, 3, 9} {
		orders(min(n, 4), func(places []int) {
			places = append(places, up(n)[len(places):]...)
			a := fresh()
			b := text(5 * n)
			ps := cut(t, b, 1, 2, 3, 5)
			for at, k := range places {
				data := make([]byte, 5, 20)
				copy(data, ps[k].Data)
				p := ps[k]
				p.Data = data
				got, ok := a.add(t, p)
				scribble(data)
				if at == n-1 && (!ok || !bytes.Equal(got, b)) {
					t.Fatalf("%d packets, order %v: %v, want %v", n, places, got, b)
				}
			}
		})
	}
}

// P16.1, W6: all packets handed in with their data in one room, which is written over each time.
func TestOneRoom(t *testing.T) {
	a := fresh()
	room := make([]byte, 8)
	for round := range 16 {
		for k := range 15 {
			for l := range room {
				room[l] = byte(16*round + k)
			}
			p := of(1, 2, uint64(k), 15-round, 16, "")
			p.Data = room[:4]
			got, ok := a.add(t, p)
			if ok != (round == 15) {
				t.Fatal(round, k, ok)
			}
			scribble(room)
			for l := range got {
				if got[l] != byte(16*(15-l/4)+k) {
					t.Fatalf("message %d: byte %d is %d", k, l, got[l])
				}
			}
		}
	}
}

// P16.1, W6: what was answered is new memory: who writes into it changes no packet, no message that has begun, and no other answer; nor does what comes later change it.
func TestAnswerWritten(t *testing.T) {
	for count := 1; count <= 4; count++ {
		a := row(t, 8)
		b := text(3 * count)
		ps := cut(t, b, 5, 5, 5, 3)
		was := make([][]byte, count)
		for k, p := range ps {
			was[k] = bytes.Clone(p.Data)
		}
		var answers [][]byte
		for range 4 {
			for k, p := range ps {
				if got, ok := a.add(t, p); ok != (k == count-1) {
					t.Fatal(k, ok)
				} else if ok {
					answers = append(answers, got)
				}
			}
		}
		for n, got := range answers {
			scribble(got)
			_ = append(got, 1)
			for k, p := range ps {
				if !bytes.Equal(p.Data, was[k]) {
					t.Errorf("count %d: packet %d changed with an answer", count, k)
				}
			}
			for _, other := range answers[n+1:] {
				if !bytes.Equal(other, b) {
					t.Errorf("count %d: an answer changed with another one", count)
				}
			}
		}
		for k := range 8 {
			a.end(t, k)
		}
	}
}

// P16.1, W6: what lies behind a packet's data in the same room is not written to.
func TestRoomBehind(t *testing.T) {
	room := text(60)
	was := bytes.Clone(room)
	a := fresh()
	for _, k := range []int{1, 0, 2} {
		p := of(1, 2, 3, k, 3, "")
		p.Data = room[10*k : 10*k+15]
		a.add(t, p)
		if !bytes.Equal(room, was) {
			t.Fatal("Add wrote into the packets' room")
		}
	}
	if a.x.Waiting() != 0 {
		t.Error(a.x.Waiting())
	}
}

// W2: two Gathers do not know of each other.
func TestTwo(t *testing.T) {
	a, b := row(t, 16), row(t, 16)
	a.forget(t)
	for k := range 16 {
		b.end(t, k)
	}
	a.waits(t, of(1, 2, 0, 0, 3, "<"))
	b.waits(t, of(1, 2, 0, 1, 3, "="))
	a.waits(t, of(1, 2, 0, 2, 3, ">"))
	a.whole(t, of(1, 2, 0, 1, 3, "-"), "<->")
	b.finish(t, false)
}

// W2: a copy of a Gather is one of its own: what is called of one is not seen in the other, one call or several.
func TestCopy(t *testing.T) {
	for _, n := range []int{1, 2, 15, 16} {
		for k := range n {
			id := uint64(k)
			steps := []func(*Gather){
				func(g *Gather) { g.Add(of(1, 2, id, 2, 3, "?")) },
				func(g *Gather) { g.Add(of(1, 2, id, 0, 3, "?")) },
				func(g *Gather) { g.Add(of(1, 2, id, 2, 4, "?")) },
				func(g *Gather) { g.Add(of(7, 7, 7, 0, 1, "?")) },
				func(g *Gather) { g.Add(of(7, 7, 7, 0, 2, "?")) },
				func(g *Gather) { g.Add(of(7, 7, 8, 0, 2, "?")) },
				(*Gather).Forget,
			}
			for from := range steps {
				for to := range steps[from:] {
					a := row(t, n)
					other := *a.x
					for _, step := range steps[from : from+to+1] {
						step(&other)
						a.same(t, "a step of the copy")
					}
					for l := range n {
						a.end(t, l)
					}
				}
			}
		}
	}
}

// strew is a source of numbers below n.
func strew(seed uint64) func(n int) int {
	state := seed + 16
	return func(n int) int {
		state = state*6364136223846793005 + 1442695040888963407
		return int(state>>33) % n
	}
}

// P16.1, P16.2: long strewn runs, with many messages and few, in which they are made whole, forgotten, and begin anew with other Counts.
func TestStrewn(t *testing.T) {
	whole, full, lost := 0, 0, 0
	for seed := range uint64(400) {
		draw := strew(seed)
		a := fresh()
		many, counts := 1+draw(40), 1+draw(4)
		for range 400 {
			if draw(200) == 0 {
				a.forget(t)
				continue
			}
			// Some packets may not be: an Index below 0, or the Count; a Count of 0.
			count := draw(counts + 1)
			p := of(draw(2), draw(2), uint64(draw(many)), draw(count+2)-1, count, "")
			p.Data = text(draw(9))
			if draw(20) > 0 {
				p.Count = 1 + int(p.ID)%4
			}
			was := a.x.Waiting()
			got, ok := a.add(t, p)
			if ok {
				whole++
				if was > a.x.Waiting() && p.Count == 1 {
					lost++
				}
				scribble(got)
			}
			if a.x.Waiting() == 16 {
				full++
			}
			scribble(p.Data)
		}
		a.drain(t, draw(20))
	}
	if whole < 1000 || full < 1000 || lost < 100 {
		t.Errorf("%d whole, %d times full, %d times a whole one forgot another", whole, full, lost)
	}
}

// P16.1, P16.2: each run of four of thirteen steps, from none begun, from 15 and from 16, and the rest of all messages behind it.
func TestRuns(t *testing.T) {
	steps := []api.Packet{
		of(1, 2, 50, 0, 2, "a"), of(1, 2, 50, 1, 2, "b"), of(1, 2, 50, 0, 1, "c"), of(1, 2, 50, 2, 3, "d"),
		of(2, 1, 50, 0, 2, "e"), of(2, 1, 50, 1, 2, ""), of(1, 2, 51, 0, 1, ""), of(1, 3, 50, 1, 2, "f"),
		of(1, 2, 50, 2, 2, "?"), of(1, 2, 52, 0, 0, "?"), of(1, 2, 0, 0, 3, "<"), of(1, 2, 1, 2, 3, ">"),
	}
	for _, n := range []int{0, 15, 16} {
		var run func(done []int)
		run = func(done []int) {
			if len(done) < 4 {
				for k := range len(steps) + 1 {
					run(append(done[:len(done):len(done)], k))
				}
				return
			}
			a := row(t, n)
			for _, k := range done {
				if k == len(steps) {
					a.forget(t)
				} else {
					a.add(t, steps[k])
				}
			}
			a.finish(t, done[3]%2 == 0)
		}
		run(nil)
	}
}
