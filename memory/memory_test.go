package memory

import (
	"bytes"
	"fmt"
	"math"
	"reflect"
	"slices"
	"testing"

	"sigillum/api"
	"sigillum/objects"
	"sigillum/oracle"
	"sigillum/segment"
	"sigillum/skeleton"
	"sigillum/tape"
)

// The edges of numbers, of sizes, and of the operations.
var (
	numbers = []uint64{0, 1, 63, 64, 65, 4095, 4096, 4097, 262143, 262144, 262145, 1<<31 - 2, 1<<31 - 1}
	beyond  = []uint64{1 << 31, 1<<31 + 1, 1<<32 - 1, 1 << 32, 1<<32 + 1, 1<<32 + 64, 1 << 48, 1<<63 - 1, 1 << 63, 1<<63 + 64, math.MaxUint64 - 1, math.MaxUint64}
	ops     = []uint16{0, 1, 2, 3, 4, 5, 6, 50, 98, 99, 100, 101, 102, 103, 104, 105, 106, 200, 255, 256, 356, 357, 1 << 15, 1<<16 - 2, 1<<16 - 1}
	values  = []int{-1, 0, 1, 2, 3, 62, 63, 64, 65, -2, -64, 1 << 31, 1 << 32, math.MaxInt, math.MinInt, math.MinInt + 1}
)

// rest is an operation behind the last one of a memory.
const rest = Grow + 1

// fact is what the model knows of an object: all secrets that were drawn for it, of which the last one holds, and the round in which it was made or touched last.
type fact struct {
	secrets []uint64
	value   int
	since   int
}

// model has segments as their bytes, and no count of pages: how many are free it works out, as it does epochs and rounds.
type model struct {
	port  uint64
	pages int
	list  []uint64 // the draws that are left
	asked map[uint64]uint64
	round int
	facts map[int]fact
	segs  map[int][]byte
}

func (d *model) draw() (uint64, api.Errno) {
	if len(d.list) == 0 {
		return 0, api.ErrTape
	}
	word := d.list[0] % (1 << 48)
	d.list = d.list[1:]
	return word, 0
}

// secret is that of object k, or 0, where there is none.
func (d *model) secret(k int) uint64 {
	all := append([]uint64{0}, d.facts[k].secrets...)
	return all[len(all)-1]
}

// check is the check of object k for rights.
func (d *model) check(k int, rights uint8) (uint64, api.Errno) {
	if rights == 255 {
		return d.secret(k), 0
	}
	in := d.secret(k) ^ uint64(rights)
	if out, ok := d.asked[in]; ok {
		return out, 0
	}
	out, fault := d.draw()
	if fault == 0 {
		d.asked[in] = out
	}
	return out, fault
}

// owner is the owner's capability of object k.
func (d *model) owner(k int) api.Cap {
	return api.Cap{Port: d.port, Object: uint32(k), Rights: 255, Check: d.secret(k)}
}

// rounds is how many object k lives on.
func (d *model) rounds(k int) int {
	if k == 0 {
		return 24
	}
	return 24 - (d.round - d.facts[k].since)
}

// create is an object that stands for something.
func (d *model) create(value int) (api.Cap, api.Errno) {
	if len(d.facts) == 64 {
		return api.Cap{}, api.ErrFull
	}
	secret, fault := d.draw()
	if fault != 0 {
		return api.Cap{}, fault
	}
	for k := 0; ; k++ {
		if _, ok := d.facts[k]; !ok {
			d.facts[k] = fact{[]uint64{secret}, value, d.round}
			return d.owner(k), 0
		}
	}
}

// take is the object that a capability opens for some rights.
func (d *model) take(c api.Cap, need uint8) (int, api.Errno) {
	k := int(c.Object)
	if _, ok := d.facts[k]; !ok || c.Port != d.port {
		return 0, api.ErrCapability
	}
	check, fault := d.check(k, c.Rights)
	switch {
	case fault != 0:
		return 0, fault
	case check != c.Check:
		return 0, api.ErrCapability
	}
	for bit := uint8(1); bit != 0; bit <<= 1 {
		if need&bit != 0 && c.Rights&bit == 0 {
			return 0, api.ErrRights
		}
	}
	return k, 0
}

// hold is how many pages so many bytes need.
func hold(size int) int {
	many := 0
	for ; many*64 < size; many++ {
	}
	return many
}

// free is how many pages no segment has.
func (d *model) free() int {
	n := d.pages
	for _, b := range d.segs {
		n -= hold(len(b))
	}
	return n
}

// lowest is the lowest number that no segment has.
func (d *model) lowest() int {
	for id := 0; ; id++ {
		if _, ok := d.segs[id]; !ok {
			return id
		}
	}
}

// new makes a segment, and an object for it.
func (d *model) new(n uint64) (skeleton.Result, api.Errno) {
	switch {
	case n > 262144:
		return skeleton.Result{}, api.ErrArgument
	case len(d.segs) == 64:
		return skeleton.Result{}, api.ErrFull
	case hold(int(n)) > d.free():
		return skeleton.Result{}, api.ErrMemory
	}
	id := d.lowest()
	c, fault := d.create(id)
	if fault != 0 {
		return skeleton.Result{}, fault
	}
	d.segs[id] = make([]byte, n)
	return skeleton.Result{Cap: c}, 0
}

// do is what an operation does to a value.
func (d *model) do(op uint16, value int, m api.Message) (skeleton.Result, api.Errno) {
	none := skeleton.Result{}
	if op == 100 && value == -1 {
		return d.new(m.Arg)
	}
	if op <= 100 || op > 104 || value == -1 {
		return none, api.ErrCommand
	}
	n, many := m.Arg, uint64(len(m.Data))
	if op == 101 {
		n, many = m.Arg/4294967296, m.Arg%4294967296
	}
	if op != 103 && n > 2147483647 || op == 101 && many > 4096 {
		return none, api.ErrArgument
	}
	b, ok := d.segs[value]
	if !ok {
		return none, api.ErrNotFound
	}
	length := uint64(len(b))
	if (op == 101 || op == 102) && n+many > length {
		return none, api.ErrBounds
	}
	switch op {
	case 101:
		return skeleton.Result{Data: bytes.Clone(b[n : n+many])}, 0
	case 102:
		d.segs[value] = slices.Concat(b[:n], m.Data, b[n+many:])
	case 103:
		return skeleton.Result{Arg: length}, 0
	case 104:
		if n < length || n > 262144 {
			return none, api.ErrArgument
		}
		if hold(int(n)) > d.free()+hold(len(b)) {
			return none, api.ErrMemory
		}
		d.segs[value] = append(bytes.Clone(b), make([]byte, n-length)...)
	}
	return none, 0
}

// work is what comes of a request.
func (d *model) work(m api.Message) (skeleton.Result, api.Errno) {
	none := skeleton.Result{}
	needs := map[uint16]uint8{1: 0, 2: 0, 3: 0, 4: 255, 5: 8, 100: 4, 101: 1, 102: 2, 103: 1, 104: 2}
	need, ok := needs[m.Op]
	switch {
	case m.Cap.Port>>48 != 0 || m.Cap.Check>>48 != 0 || m.Cap.Object>>24 != 0:
		return none, api.ErrCapability
	case !ok:
		return none, api.ErrCommand
	}
	k, fault := d.take(m.Cap, need)
	if fault != 0 {
		return none, fault
	}
	f := d.facts[k]
	switch m.Op {
	case 1:
		return skeleton.Result{Arg: uint64(len(f.secrets)-1)*4294967296 + uint64(d.rounds(k))}, 0
	case 2:
		d.facts[k] = fact{f.secrets, f.value, d.round}
		return none, 0
	case 3:
		rights := uint8(m.Arg%256) & m.Cap.Rights
		check, fault := d.check(k, rights)
		if fault != 0 {
			return none, fault
		}
		return skeleton.Result{Cap: api.Cap{Port: d.port, Object: uint32(k), Rights: rights, Check: check}}, 0
	case 4:
		secret, fault := d.draw()
		if fault != 0 {
			return none, fault
		}
		d.facts[k] = fact{append(slices.Clone(f.secrets), secret), f.value, f.since}
		return skeleton.Result{Cap: d.owner(k)}, 0
	case 5:
		if k == 0 {
			return none, api.ErrState
		}
		d.end(k)
		return none, 0
	}
	return d.do(m.Op, f.value, m)
}

// end has object k be no more, nor the segment that it stands for.
func (d *model) end(k int) {
	delete(d.segs, d.facts[k].value)
	delete(d.facts, k)
}

func (d *model) age() int {
	d.round++
	gone := 0
	for k := range 64 {
		if _, ok := d.facts[k]; ok && d.rounds(k) == 0 {
			d.end(k)
			gone++
		}
	}
	return gone
}

// reply is what is to be answered to a request.
func (d *model) reply(m api.Message) api.Message {
	r, fault := d.work(m)
	return api.Message{To: m.Reply, Reply: m.To, ID: m.ID, Op: m.Op, Status: uint16(fault), Cap: r.Cap, Arg: r.Arg, Data: r.Data}
}

// alike is a message with memory of its own.
func alike(m api.Message) api.Message {
	m.Data = append([]byte(nil), m.Data...)
	return m
}

// same is whether two messages are the same; data without bytes is nil or empty, as one likes.
func same(a, b api.Message) bool { return reflect.DeepEqual(alike(a), alike(b)) }

// pair is a server of a memory, and the model of it; where s is there, it is that server's service.
type pair struct {
	x *skeleton.Server
	s *Server
	t *objects.Table
	o *oracle.Oracle
	d *model
}

// facing is a model of so many pages ahead of everything.
func facing(port uint64, pages int, list []uint64) *model {
	return &model{port: port, pages: min(max(pages, 0), 4096), list: list, asked: map[uint64]uint64{}, facts: map[int]fact{}, segs: map[int][]byte{}}
}

// over is a server of so many pages, with its root, and its draws.
func over(t *testing.T, port uint64, pages int, list ...uint64) pair {
	t.Helper()
	o := oracle.Of(tape.Of(list))
	a := pair{t: objects.Of(port, o), o: o, d: facing(port, pages, list)}
	want, fault := a.d.create(-1)
	x, root, e := Of(a.t, pages)
	if root != want || api.Number(e) != fault || (x == nil) != (e != nil) {
		t.Fatalf("Of: %v, %v, %v; want %v, %v", x, root, e, want, fault)
	}
	a.x = x
	a.look(t, "Of")
	return a
}

// bare is a service of so many pages, whose table has so many draws, and no object.
func bare(pages, draw int) pair {
	list := draws(draw)
	o := oracle.Of(tape.Of(list))
	t := objects.Of(3, o)
	s := &Server{objects: t, segments: segment.Of(pages)}
	return pair{skeleton.Of(t, s), s, t, o, facing(3, pages, list)}
}

// draws is a list of as many words: 1000, 2000, and so on.
func draws(many int) []uint64 {
	list := make([]uint64, many)
	for k := range list {
		list[k] = 1000 * uint64(k+1)
	}
	return list
}

// fill is a server of the port 3 and so many pages, with segments of some sizes, and with so many draws left.
func fill(t *testing.T, pages, left int, sizes ...int) pair {
	t.Helper()
	a := over(t, 3, pages, draws(1+len(sizes)+left)...)
	for k, size := range sizes {
		a.make(t, uint64(size))
		a.put(t, k+1, 0, letters(size)[:min(size, 4096)])
	}
	return a
}

// letters is so many bytes that are not 0, of which none is as the ones beside it, nor as the ones of the page beside it.
func letters(many int) []byte {
	b := make([]byte, many)
	for k := range b {
		b[k] = byte(1 + k%251)
	}
	return b
}

// look holds all that can be seen without a draw against the model.
func (a pair) look(t *testing.T, after string) {
	t.Helper()
	if a.t.Len() != len(a.d.facts) || a.o.Left() != len(a.d.list) || len(a.o.Entries()) != len(a.d.asked) {
		t.Fatalf("after %s: %d objects, %d left, %d asked; want %d, %d, %d", after, a.t.Len(), a.o.Left(), len(a.o.Entries()), len(a.d.facts), len(a.d.list), len(a.d.asked))
	}
	if a.s != nil && a.s.segments.Left() != a.d.free() {
		t.Fatalf("after %s: %d pages are free; want %d", after, a.s.segments.Left(), a.d.free())
	}
	for k := range 64 {
		f, there := a.d.facts[k]
		if v, ok := a.t.Value(k); v != f.value || ok != there {
			t.Fatalf("after %s: Value(%d): %d, %v; want %d, %v", after, k, v, ok, f.value, there)
		}
		if !there {
			continue
		}
		if e, r, err := a.t.Info(a.d.owner(k)); e != len(f.secrets)-1 || r != a.d.rounds(k) || err != nil {
			t.Fatalf("after %s: Info of %d: %d, %d, %v; want %d, %d", after, k, e, r, err, len(f.secrets)-1, a.d.rounds(k))
		}
		a.whole(t, after, k)
	}
}

// whole holds the bytes of what object k stands for against the model.
func (a pair) whole(t *testing.T, after string, k int) {
	t.Helper()
	own, value := a.d.owner(k), a.d.facts[k].value
	b, ok := a.d.segs[value]
	want := api.Message{Op: 103, Arg: uint64(len(b))}
	switch {
	case value == -1:
		want.Status = uint16(api.ErrCommand)
	case !ok:
		want.Status = uint16(api.ErrNotFound)
	}
	if r := a.x.Serve(api.Message{Op: 103, Cap: own}); !same(r, want) {
		t.Fatalf("after %s: the size of %d: %v; want %v", after, k, r, want)
	}
	for at := 0; at < len(b); at += 4096 {
		part := b[at:min(at+4096, len(b))]
		r := a.x.Serve(api.Message{Op: 101, Cap: own, Arg: uint64(at)<<32 + uint64(len(part))})
		if r.Status != 0 || !bytes.Equal(r.Data, part) {
			t.Fatalf("after %s: object %d has at %d, status %d: %v; want %v", after, k, at, r.Status, r.Data, part)
		}
	}
	// Behind the last page that is free there is none.
	behind := uint64(hold(len(b))+a.d.free())*64 + 1
	if ok && behind <= 262144 {
		if r := a.x.Serve(api.Message{Op: 104, Cap: own, Arg: behind}); r.Status != uint16(api.ErrMemory) {
			t.Fatalf("after %s: object %d grows to %d: %v", after, k, behind, r)
		}
	}
}

// serve holds a reply against the model, what was handed in against what it was, and writes into both: nothing of the server hangs on them.
func (a pair) serve(t *testing.T, m api.Message) api.Message {
	t.Helper()
	held := alike(m)
	want := a.d.reply(alike(m))
	got := a.x.Serve(m)
	if !same(got, want) {
		t.Fatalf("Serve(%v): %v; want %v", held, got, want)
	}
	if !same(m, held) {
		t.Fatalf("Serve wrote into what was handed in: %v; it was %v", m, held)
	}
	for k := range got.Data {
		got.Data[k] ^= 0x55
	}
	if !same(m, held) {
		t.Fatal("what is answered shares memory with what was handed in")
	}
	for k := range m.Data {
		m.Data[k] ^= 0x33
	}
	a.look(t, "Serve")
	return want
}

// do holds what the service does by itself against the model, as serve does.
func (a pair) do(t *testing.T, op uint16, value int, m api.Message) (skeleton.Result, api.Errno) {
	t.Helper()
	held := alike(m)
	want, fault := a.d.do(op, value, alike(m))
	got, e := a.s.Do(op, value, m)
	if api.Number(e) != fault || (e == nil) != (fault == 0) {
		t.Fatalf("Do(%d, %d, %v): %v; want %v", op, value, held, e, fault)
	}
	if got.Cap != want.Cap || got.Arg != want.Arg || !bytes.Equal(got.Data, want.Data) {
		t.Fatalf("Do(%d, %d, %v): %v; want %v", op, value, held, got, want)
	}
	if !same(m, held) {
		t.Fatalf("Do wrote into what was handed in: %v; it was %v", m, held)
	}
	for k := range got.Data {
		got.Data[k] ^= 0x55
	}
	for k := range m.Data {
		m.Data[k] ^= 0x33
	}
	a.look(t, "Do")
	return want, fault
}

// request is one whose every part says something, but that it has no data.
func request(op uint16, c api.Cap, arg uint64) api.Message {
	return api.Message{To: 21, Reply: 22, ID: 23, Op: op, Status: 24, Cap: c, Arg: arg}
}

// asks holds the error of an answer; what stands beside it is held against the model.
func (a pair) asks(t *testing.T, op uint16, c api.Cap, arg uint64, want api.Errno) api.Message {
	t.Helper()
	r := a.serve(t, request(op, c, arg))
	if r.Status != uint16(want) {
		t.Fatalf("operation %d by %v with %d: %v; want %v", op, c, arg, api.Errno(r.Status), want)
	}
	return r
}

// make makes a segment.
func (a pair) make(t *testing.T, size uint64) api.Cap {
	t.Helper()
	return a.asks(t, Make, a.d.owner(0), size, 0).Cap
}

// puts writes into a segment by a capability.
func (a pair) puts(t *testing.T, c api.Cap, at uint64, b []byte, want api.Errno) {
	t.Helper()
	m := request(Write, c, at)
	m.Data = bytes.Clone(b)
	if r := a.serve(t, m); r.Status != uint16(want) {
		t.Fatalf("Write of %d bytes at %d by %v: %v; want %v", len(b), at, c, api.Errno(r.Status), want)
	}
}

// put writes into the segment of object k.
func (a pair) put(t *testing.T, k int, at uint64, b []byte) {
	t.Helper()
	a.puts(t, a.d.owner(k), at, b, 0)
}

// bytes holds so many bytes from one on of the segment of object k against such as are written out.
func (a pair) bytes(t *testing.T, k, at int, want string) {
	t.Helper()
	r := a.asks(t, Read, a.d.owner(k), uint64(at)<<32+uint64(len(want)), 0)
	if string(r.Data) != want {
		t.Fatalf("at %d of %d: %q; want %q", at, k, r.Data, want)
	}
}

// mask is a restricted capability.
func (a pair) mask(t *testing.T, c api.Cap, rights uint8) api.Cap {
	t.Helper()
	return a.asks(t, skeleton.Restrict, c, uint64(rights), 0).Cap
}

// foreign makes an object that the memory did not.
func (a pair) foreign(t *testing.T, value int) api.Cap {
	t.Helper()
	want, fault := a.d.create(value)
	if c, e := a.t.Create(value); c != want || api.Number(e) != fault {
		t.Fatalf("Create(%d): %v, %v; want %v, %v", value, c, e, want, fault)
	}
	a.look(t, "Create")
	return want
}

func (a pair) age(t *testing.T) int {
	t.Helper()
	want := a.d.age()
	if n := a.x.Age(); n != want {
		t.Fatalf("Age: %d; want %d", n, want)
	}
	a.look(t, "Age")
	return want
}

// room holds that so many pages are free, no fewer and no more: a segment over all of them is made and destroyed.
func (a pair) room(t *testing.T, pages int) {
	t.Helper()
	a.asks(t, Make, a.d.owner(0), uint64(pages)*64+1, api.ErrMemory)
	c := a.make(t, uint64(pages)*64)
	a.asks(t, skeleton.Destroy, c, 0, 0)
}

// P25.1, P25.2: the chapter's example.
func TestExample(t *testing.T) {
	x, root, e := Of(objects.Of(7, oracle.Of(tape.Of([]uint64{5, 6}))), 2)
	if e != nil || root != (api.Cap{Port: 7, Rights: 255, Check: 5}) {
		t.Fatal(root, e)
	}
	c := x.Serve(api.Message{Op: Make, Cap: root, Arg: 100})
	if !same(c, api.Message{Op: 100, Cap: api.Cap{Port: 7, Object: 1, Rights: 255, Check: 6}}) {
		t.Fatal(c)
	}
	if r := x.Serve(api.Message{Op: Write, Cap: c.Cap, Arg: 99, Data: []byte("ab")}); !same(r, api.Message{Op: 102, Status: uint16(api.ErrBounds)}) {
		t.Error(r)
	}
	if r := x.Serve(api.Message{Op: Read, Cap: c.Cap, Arg: 2}); !same(r, api.Message{Op: 101, Data: []byte{0, 0}}) {
		t.Error(r)
	}
}

// The operations are numbers that others know, too, and so is what the root stands for.
func TestOperations(t *testing.T) {
	if !slices.Equal([]uint16{Make, Read, Write, Size, Grow}, []uint16{100, 101, 102, 103, 104}) || Root != -1 {
		t.Error(Make, Read, Write, Size, Grow, Root)
	}
}

// The server is an interface to its skeleton.
func TestInterface(t *testing.T) {
	var s skeleton.Service = &Server{}
	if need, ok := s.Need(Make); need != 4 || !ok {
		t.Error(need, ok)
	}
}

// P25.1: Of takes one draw, for the object 0, which stands for Root, and answers the capability of its owner, of the table's port.
func TestOf(t *testing.T) {
	for _, port := range []uint64{0, 1, 3, 1 << 32, api.Word} {
		for _, list := range [][]uint64{{5}, {0, 1}, {api.Word, 7, 7}, {1 << 48, 2}, {math.MaxUint64}} {
			o := oracle.Of(tape.Of(list))
			x := objects.Of(port, o)
			s, c, e := Of(x, 3)
			if s == nil || e != nil || c != (api.Cap{Port: port, Rights: 255, Check: list[0] & api.Word}) {
				t.Fatal(port, list, s, c, e)
			}
			if v, ok := x.Value(0); v != -1 || !ok || x.Len() != 1 || o.Left() != len(list)-1 || len(o.Entries()) != 0 {
				t.Fatal(v, ok, x.Len(), o.Left())
			}
			if k, e := x.Check(c, 255); k != 0 || e != nil {
				t.Fatal(k, e)
			}
			if r := s.Serve(api.Message{Op: skeleton.Info, Cap: c}); !same(r, api.Message{Op: 1, Arg: 24}) {
				t.Fatal(r)
			}
		}
	}
}

// P25.1: of a table that has no draw left, nil, a zero capability and the error; nothing is made.
func TestOfWithoutDraws(t *testing.T) {
	spent := oracle.Of(tape.Of([]uint64{1}))
	spent.Draw()
	for k, o := range []*oracle.Oracle{nil, oracle.Of(nil), oracle.Of(tape.Of(nil)), spent} {
		for _, pages := range []int{-1, 0, 1, 5, 4096, math.MaxInt} {
			x := objects.Of(9, o)
			s, c, e := Of(x, pages)
			if s != nil || c != (api.Cap{}) || api.Number(e) != api.ErrTape || x.Len() != 0 {
				t.Fatal(k, pages, s, c, e, x.Len())
			}
		}
	}
}

// P25.1: the error is the one of Create, also of a table that is full.
func TestOfFull(t *testing.T) {
	o := oracle.Of(tape.Of(draws(70)))
	x := objects.Of(9, o)
	for k := range 64 {
		x.Create(k)
	}
	if s, c, e := Of(x, 4); s != nil || c != (api.Cap{}) || api.Number(e) != api.ErrFull || x.Len() != 64 || o.Left() != 6 {
		t.Fatal(s, c, e, x.Len(), o.Left())
	}
}

// P25.1: the memory has so many pages: none, one, and many; none below 0, no more than 4096.
func TestOfPages(t *testing.T) {
	for _, pages := range []int{math.MinInt, -64, -1, 0, 1, 2, 3, 64, 65, 4095, 4096, 4097, 1 << 20, math.MaxInt} {
		a := over(t, 3, pages, draws(9)...)
		most := uint64(min(max(pages, 0), 4096)) * 64
		if most < 262144 {
			a.asks(t, Make, a.d.owner(0), most+1, api.ErrMemory)
		} else {
			a.asks(t, Make, a.d.owner(0), most+1, api.ErrArgument)
		}
		a.make(t, most)
		a.make(t, 0)
		a.asks(t, Make, a.d.owner(0), 1, api.ErrMemory)
		a.asks(t, Grow, a.d.owner(2), 1, api.ErrMemory)
		a.asks(t, skeleton.Destroy, a.d.owner(1), 0, 0)
		if most > 0 {
			a.asks(t, Grow, a.d.owner(2), most, 0)
		}
	}
}

// P25.1: two servers have memories of their own.
func TestOfTwo(t *testing.T) {
	a, b := over(t, 3, 1, draws(9)...), over(t, 3, 1, draws(9)...)
	a.make(t, 64)
	b.make(t, 64)
	a.put(t, 1, 0, []byte("aaa"))
	b.bytes(t, 1, 0, "\x00\x00\x00")
	b.put(t, 1, 1, []byte("bbb"))
	a.bytes(t, 1, 0, "aaa\x00")
	a.asks(t, skeleton.Destroy, a.d.owner(1), 0, 0)
	b.bytes(t, 1, 0, "\x00bbb")
	a.look(t, "b")
}

// P25.2: Need of each operation there can be: Create of Make, Read of Read and Size, Write of Write and Grow; of any other 0 and false.
func TestNeed(t *testing.T) {
	want := map[uint16]uint8{100: api.Create, 101: api.Read, 102: api.Write, 103: api.Read, 104: api.Write}
	for _, s := range []*Server{bare(4, 4).s, bare(0, 0).s, {}} {
		for op := range 1 << 16 {
			need, ok := s.Need(uint16(op))
			if w, there := want[uint16(op)]; need != w || ok != there {
				t.Fatalf("Need(%d): %d, %v; want %d, %v", op, need, ok, w, there)
			}
		}
	}
}

// P25.2: by capabilities of all rights there can be each operation is done, or ErrRights, as its need is; nothing is changed by one that is refused.
func TestRights(t *testing.T) {
	for op, need := range map[uint16]int{Make: 4, Read: 1, Write: 2, Size: 1, Grow: 2} {
		a := fill(t, 600, 600, 10)
		for rights := range 256 {
			k := 1
			if op == Make {
				k = 0
			}
			want := api.ErrRights
			if rights&need != 0 {
				want = 0
			}
			c := a.mask(t, a.d.owner(k), uint8(rights))
			m := request(op, c, uint64(20+rights))
			if op == Write || op == Read {
				m.Arg %= 7
			}
			m.Data = []byte{byte(rights), 1, 2}
			if op == Make && rights%5 != 0 {
				m.Arg = 1 << 31 // what is asked is looked at only behind the rights
				if want == 0 {
					want = api.ErrArgument
				}
			}
			if r := a.serve(t, m); r.Status != uint16(want) {
				t.Fatal(op, rights, r)
			}
		}
	}
}

// P25.2: capabilities that are not good: each operation is ErrCapability, and nothing is changed, nor drawn for such as no object has.
func TestCapabilities(t *testing.T) {
	a := fill(t, 20, 40, 10, 70)
	own := a.d.owner(1)
	see := a.mask(t, own, 1)
	bad := []api.Cap{{}, {Port: 3}}
	for _, turn := range []func(c *api.Cap){
		func(c *api.Cap) { c.Port = 4 },
		func(c *api.Cap) { c.Port = 0 },
		func(c *api.Cap) { c.Port |= 1 << 48 },
		func(c *api.Cap) { c.Port |= 1 << 63 },
		func(c *api.Cap) { c.Object = 3 },
		func(c *api.Cap) { c.Object = 2 },
		func(c *api.Cap) { c.Object = 64 },
		func(c *api.Cap) { c.Object = 1<<24 - 1 },
		func(c *api.Cap) { c.Object = 1<<24 + 1 },
		func(c *api.Cap) { c.Object = math.MaxUint32 },
		func(c *api.Cap) { c.Check++ },
		func(c *api.Cap) { c.Check ^= 1 << 47 },
		func(c *api.Cap) { c.Check ^= 1 << 48 },
		func(c *api.Cap) { c.Check ^= 1 << 63 },
		func(c *api.Cap) { c.Rights ^= 2 },
		func(c *api.Cap) { c.Rights ^= 128 },
	} {
		for _, c := range []api.Cap{own, see} {
			turn(&c)
			bad = append(bad, c)
		}
	}
	for _, c := range bad {
		for op := Make; op <= Grow; op++ {
			for _, arg := range []uint64{0, 1, 100, math.MaxUint64} {
				a.asks(t, op, c, arg, api.ErrCapability)
			}
		}
	}
	a.puts(t, own, 3, []byte("still"), 0)
	a.asks(t, skeleton.Revoke, own, 0, 0)
	for op := Make; op <= Grow; op++ {
		a.asks(t, op, own, 0, api.ErrCapability)
		a.asks(t, op, see, 0, api.ErrCapability)
	}
	a.bytes(t, 1, 3, "still")
}

// P25.2: a restricted capability is asked about by a draw; where there is none, that is told, and nothing is done.
func TestCapabilityWithoutDraws(t *testing.T) {
	a := fill(t, 20, 0, 10)
	for op := Make; op <= Grow; op++ {
		for _, arg := range []uint64{0, 5, math.MaxUint64} {
			a.asks(t, op, api.Cap{Port: 3, Object: 1, Rights: 254, Check: 9}, arg, api.ErrTape)
		}
	}
}

// P25.2: operations that there are not are ErrCommand, whatever the rights are; those that each server has are there.
func TestOtherOperations(t *testing.T) {
	a := fill(t, 20, 40, 10)
	few := a.mask(t, a.d.owner(1), 0)
	for _, op := range ops {
		if op >= Make && op <= Grow || op >= skeleton.Info && op <= skeleton.Destroy {
			continue
		}
		for _, c := range []api.Cap{a.d.owner(0), a.d.owner(1), few, {Port: 3, Object: 9}} {
			a.asks(t, op, c, 1, api.ErrCommand)
		}
	}
	a.asks(t, skeleton.Info, few, 0, 0)
	a.asks(t, skeleton.Touch, few, 0, 0)
	a.asks(t, skeleton.Destroy, a.d.owner(0), 0, api.ErrState)
}

// P25.2: Make of anything but the root is ErrCommand, and so is every other operation of the root, ahead of what is wrong with numbers.
func TestCommand(t *testing.T) {
	a := fill(t, 20, 40, 10, 0)
	for _, arg := range slices.Concat(numbers, beyond) {
		a.asks(t, Make, a.d.owner(1), arg, api.ErrCommand)
		a.asks(t, Make, a.d.owner(2), arg, api.ErrCommand)
		for op := Read; op <= Grow; op++ {
			a.asks(t, op, a.d.owner(0), arg, api.ErrCommand)
		}
	}
	a.puts(t, a.d.owner(0), 0, []byte("a"), api.ErrCommand)
}

// P25.2: Do by itself, of each value and operation: what there is not is ErrCommand, and of a value that no segment has ErrNotFound, behind what is wrong with numbers.
func TestDoValues(t *testing.T) {
	for _, op := range append([]uint16{Make, Read, Write, Size, Grow}, ops...) {
		for _, value := range values {
			a := bare(9, 9)
			a.do(t, Make, Root, api.Message{Arg: 10})
			a.do(t, Make, Root, api.Message{Arg: 70})
			for _, arg := range append([]uint64{5, 11, 5 << 32, 5<<32 + 5}, slices.Concat(numbers, beyond)...) {
				r, fault := a.do(t, op, value, api.Message{Arg: arg, Data: []byte("x"), Cap: api.Cap{Port: 1}, Op: 77})
				if op != Make && value == Root && fault != api.ErrCommand {
					t.Fatal(op, value, arg, r, fault)
				}
			}
		}
	}
}

// P25.2: Do tells the operation by op, not by what the message has, and looks at none but Arg and Data of it.
func TestDoOp(t *testing.T) {
	a := bare(9, 9)
	full := api.Message{To: math.MaxUint64, Reply: 1 << 50, ID: 8, Status: 99, Cap: api.Cap{Port: math.MaxUint64}, Arg: 12, Data: []byte("data")}
	full.Op = Size
	a.do(t, Make, Root, full)
	full.Arg, full.Op = 8, Make
	a.do(t, Write, 0, full)
	full.Arg, full.Data = 8<<32+4, nil
	if r, fault := a.do(t, Read, 0, full); len(r.Data) != 4 || fault != 0 {
		t.Fatal(r, fault)
	}
	full.Arg = math.MaxUint64
	if r, fault := a.do(t, Size, 0, full); r.Arg != 12 || fault != 0 {
		t.Fatal(r, fault)
	}
}

// P25.2: Make: of a number above 2^31 - 1 ErrArgument, as of any above 262144; else a segment of so many bytes, all 0.
func TestMakeNumbers(t *testing.T) {
	for _, n := range slices.Concat(numbers, beyond) {
		a := over(t, 3, 4096, draws(4)...)
		r := a.serve(t, request(Make, a.d.owner(0), n))
		if n > 262144 {
			if r.Status != uint16(api.ErrArgument) || r.Cap != (api.Cap{}) || a.o.Left() != 3 {
				t.Fatal(n, r)
			}
			continue
		}
		if r.Status != 0 || r.Cap != (api.Cap{Port: 3, Object: 1, Rights: 255, Check: 2000}) {
			t.Fatal(n, r)
		}
		if r := a.asks(t, Size, r.Cap, 0, 0); r.Arg != n || len(r.Data) != 0 || r.Cap != (api.Cap{}) {
			t.Fatal(n, r)
		}
		if n > 0 {
			a.bytes(t, 1, int(n)-1, "\x00")
		}
	}
}

// P25.2: what Make tells when no page is left, and that what it told ahead stays as it is.
func TestMakeMemory(t *testing.T) {
	a := fill(t, 5, 40, 65, 1)
	a.asks(t, Make, a.d.owner(0), 129, api.ErrMemory)
	a.asks(t, Make, a.d.owner(0), 262144, api.ErrMemory)
	a.asks(t, Make, a.d.owner(0), 262145, api.ErrArgument)
	a.make(t, 128)
	a.asks(t, Make, a.d.owner(0), 1, api.ErrMemory)
	a.make(t, 0)
	a.asks(t, Grow, a.d.owner(2), 65, api.ErrMemory)
	a.asks(t, Grow, a.d.owner(2), 64, 0)
}

// P25.2: what Make tells of a table that is full: ErrFull, behind what is wrong with the segment, which is deleted: its pages are free.
func TestMakeFull(t *testing.T) {
	a := over(t, 3, 70, draws(70)...)
	for range 63 {
		a.make(t, 1)
	}
	for range 100 {
		a.asks(t, Make, a.d.owner(0), 7*64, api.ErrFull)
		a.asks(t, Make, a.d.owner(0), 0, api.ErrFull)
	}
	a.asks(t, Make, a.d.owner(0), 7*64+1, api.ErrMemory)
	a.asks(t, Make, a.d.owner(0), 262145, api.ErrArgument)
	a.asks(t, Make, a.d.owner(0), 1<<31, api.ErrArgument)
	a.asks(t, Grow, a.d.owner(40), 8*64, 0)
	a.asks(t, Make, a.d.owner(0), 1, api.ErrMemory)
	a.asks(t, Make, a.d.owner(0), 0, api.ErrFull)
	a.asks(t, skeleton.Destroy, a.d.owner(17), 0, 0)
	if c := a.make(t, 64); c.Object != 17 {
		t.Fatal(c)
	}
	if v, ok := a.t.Value(17); v != 16 || !ok {
		t.Fatal(v, ok)
	}
}

// P25.2: what Make tells where no draw is left: ErrTape, behind what is wrong with the segment, which is deleted: its pages are free.
func TestMakeTape(t *testing.T) {
	a := fill(t, 6, 0, 64, 100)
	for range 100 {
		a.asks(t, Make, a.d.owner(0), 3*64, api.ErrTape)
		a.asks(t, Make, a.d.owner(0), 0, api.ErrTape)
	}
	a.asks(t, Make, a.d.owner(0), 3*64+1, api.ErrMemory)
	a.asks(t, Make, a.d.owner(0), 262145, api.ErrArgument)
	a.asks(t, Make, a.d.owner(0), math.MaxUint64, api.ErrArgument)
	a.asks(t, Grow, a.d.owner(1), 4*64, 0)
	a.asks(t, Make, a.d.owner(0), 1, api.ErrMemory)
	a.asks(t, Make, a.d.owner(0), 0, api.ErrTape)
}

// P25.2: where the store itself is full, that is told: a service whose table has no root makes 64 segments, and of no number more than one object.
func TestMakeStoreFull(t *testing.T) {
	a := bare(80, 80)
	for k := range 64 {
		if r, fault := a.do(t, Make, Root, api.Message{Arg: uint64(k % 2)}); fault != 0 || r.Cap.Object != uint32(k) {
			t.Fatal(k, r, fault)
		}
	}
	for _, x := range []struct {
		n    uint64
		want api.Errno
	}{{1, api.ErrFull}, {262144, api.ErrFull}, {262145, api.ErrArgument}, {1 << 31, api.ErrArgument}} {
		if r, fault := a.do(t, Make, Root, api.Message{Arg: x.n}); fault != x.want {
			t.Fatal(x, r, fault)
		}
	}
	// An object that is destroyed behind the memory's back has its segment still.
	if _, _, e := a.t.Destroy(a.d.owner(5)); e != nil {
		t.Fatal(e)
	}
	delete(a.d.facts, 5)
	if r, fault := a.do(t, Make, Root, api.Message{Arg: 1}); fault != api.ErrFull {
		t.Fatal(r, fault)
	}
}

// P25.2: Read: from where is Arg / 2^32, how many Arg's last 32 bits, at most MaxData; within a page, over pages' ends, and up to the segment's end.
func TestRead(t *testing.T) {
	a := fill(t, 200, 0, 200, 5000, 0)
	b := letters(5000)
	for _, x := range []struct {
		k, at, many int
		want        api.Errno
	}{
		{1, 0, 0, 0}, {1, 0, 1, 0}, {1, 0, 64, 0}, {1, 0, 65, 0}, {1, 63, 1, 0}, {1, 63, 2, 0}, {1, 64, 1, 0}, {1, 60, 100, 0},
		{1, 0, 200, 0}, {1, 0, 201, api.ErrBounds}, {1, 199, 1, 0}, {1, 199, 2, api.ErrBounds}, {1, 200, 0, 0}, {1, 200, 1, api.ErrBounds},
		{1, 201, 0, api.ErrBounds}, {1, 0, 4096, api.ErrBounds}, {1, 0, 4097, api.ErrArgument}, {1, 201, 4097, api.ErrArgument},
		{2, 0, 4095, 0}, {2, 0, 4096, 0}, {2, 0, 4097, api.ErrArgument}, {2, 1, 4096, 0}, {2, 904, 4096, 0}, {2, 905, 4096, api.ErrBounds},
		{2, 904, 4097, api.ErrArgument}, {2, 4999, 1, 0}, {2, 5000, 0, 0}, {2, 5001, 0, api.ErrBounds},
		{3, 0, 0, 0}, {3, 0, 1, api.ErrBounds}, {3, 1, 0, api.ErrBounds}, {3, 0, 4097, api.ErrArgument},
		{1, 1<<31 - 1, 0, api.ErrBounds}, {1, 1<<31 - 1, 4096, api.ErrBounds}, {1, 1 << 31, 0, api.ErrArgument}, {1, 1<<32 - 1, 1, api.ErrArgument},
		{1, 0, 1 << 31, api.ErrArgument}, {1, 0, 1<<32 - 1, api.ErrArgument}, {1, 1<<32 - 1, 1<<32 - 1, api.ErrArgument}, {1, 1 << 31, 4097, api.ErrArgument},
	} {
		r := a.asks(t, Read, a.d.owner(x.k), uint64(x.at)<<32|uint64(x.many), x.want)
		if x.want != 0 {
			if len(r.Data) != 0 {
				t.Fatal(x, r)
			}
			continue
		}
		if len(r.Data) != x.many || r.Arg != 0 || r.Cap != (api.Cap{}) {
			t.Fatal(x, len(r.Data))
		}
		// What lies behind the first 4096 bytes has not been written.
		for k, got := range r.Data {
			if want := b[x.at+k]; x.at+k < 4096 && got != want || x.at+k >= 4096 && got != 0 {
				t.Fatal(x, k, got)
			}
		}
	}
}

// P25.2: Write: the data stand from Arg on, within a page, over pages' ends, and up to the segment's end; else nothing is changed.
func TestWrite(t *testing.T) {
	a := fill(t, 200, 0, 200, 5000, 0)
	for n, x := range []struct {
		k    int
		at   uint64
		many int
		want api.Errno
	}{
		{1, 0, 0, 0}, {1, 0, 1, 0}, {1, 5, 7, 0}, {1, 63, 1, 0}, {1, 63, 2, 0}, {1, 64, 64, 0}, {1, 60, 100, 0},
		{1, 0, 200, 0}, {1, 0, 201, api.ErrBounds}, {1, 199, 1, 0}, {1, 199, 2, api.ErrBounds}, {1, 200, 0, 0}, {1, 200, 1, api.ErrBounds}, {1, 201, 0, api.ErrBounds},
		{2, 0, 4096, 0}, {2, 904, 4096, 0}, {2, 905, 4096, api.ErrBounds}, {2, 0, 4097, 0}, {2, 0, 5000, 0}, {2, 0, 5001, api.ErrBounds}, {2, 5000, 0, 0}, {2, 5001, 0, api.ErrBounds},
		{3, 0, 0, 0}, {3, 0, 1, api.ErrBounds}, {3, 1, 0, api.ErrBounds},
		{1, 1<<31 - 1, 0, api.ErrBounds}, {1, 1<<31 - 1, 9, api.ErrBounds}, {1, 1 << 31, 0, api.ErrArgument}, {1, 1 << 32, 1, api.ErrArgument}, {1, 1<<32 + 5, 1, api.ErrArgument},
		{1, 1<<63 + 5, 1, api.ErrArgument}, {1, math.MaxUint64, 1, api.ErrArgument}, {1, math.MaxUint64, 0, api.ErrArgument}, {3, math.MaxUint64 - 1, 2, api.ErrArgument},
	} {
		b := bytes.Repeat([]byte{byte(200 + n)}, x.many)
		a.puts(t, a.d.owner(x.k), x.at, b, x.want)
		if x.want == 0 && x.many > 0 && x.many <= 4096 {
			a.bytes(t, x.k, int(x.at), string(b))
		}
	}
}

// P25.2: Write of nil data, and of empty ones, changes nothing; it answers nothing.
func TestWriteNothing(t *testing.T) {
	a := fill(t, 2, 0, 70)
	for _, b := range [][]byte{nil, {}} {
		m := request(Write, a.d.owner(1), 70)
		m.Data = b
		if r := a.serve(t, m); r.Status != 0 || r.Arg != 0 || len(r.Data) != 0 || r.Cap != (api.Cap{}) {
			t.Fatal(r)
		}
	}
	a.bytes(t, 1, 0, string(letters(70)))
}

// P25.2: Grow to what it is, to more, to less, within the last page and beyond it; what is new is 0, what was there stays.
func TestGrow(t *testing.T) {
	a := fill(t, 8, 9, 10, 64)
	for _, x := range []struct {
		k    int
		to   uint64
		want api.Errno
	}{
		{1, 10, 0}, {1, 9, api.ErrArgument}, {1, 0, api.ErrArgument}, {1, 11, 0}, {1, 10, api.ErrArgument}, {1, 64, 0}, {1, 65, 0}, {1, 64, api.ErrArgument}, {1, 128, 0},
		{2, 64, 0}, {2, 63, api.ErrArgument}, {2, 65, 0}, {2, 6*64 + 1, api.ErrMemory}, {2, 6 * 64, 0}, {2, 6*64 + 1, api.ErrMemory}, {1, 129, api.ErrMemory}, {1, 128, 0},
		{1, 262144, api.ErrMemory}, {1, 262145, api.ErrArgument}, {1, 1<<31 - 1, api.ErrArgument}, {1, 1 << 31, api.ErrArgument}, {1, 1<<32 + 128, api.ErrArgument}, {1, 1<<63 + 128, api.ErrArgument}, {1, math.MaxUint64, api.ErrArgument},
	} {
		r := a.asks(t, Grow, a.d.owner(x.k), x.to, x.want)
		if r.Arg != 0 || len(r.Data) != 0 || r.Cap != (api.Cap{}) {
			t.Fatal(x, r)
		}
		if got := a.asks(t, Size, a.d.owner(x.k), 0, 0).Arg; x.want == 0 && got != x.to {
			t.Fatal(x, got)
		}
	}
	a.bytes(t, 1, 0, string(letters(10))+"\x00\x00")
	a.asks(t, skeleton.Destroy, a.d.owner(2), 0, 0)
	a.asks(t, Grow, a.d.owner(1), 8*64, 0)
	a.bytes(t, 1, 8, string(letters(10)[8:])+string(make([]byte, 8*64-10)))
}

// P25.2: Size does not look at Arg or data, and tells what Make and Grow made it.
func TestSize(t *testing.T) {
	for _, n := range []uint64{0, 1, 63, 64, 65, 128, 4096, 4097, 262143, 262144} {
		a := over(t, 3, 4096, draws(5)...)
		c := a.make(t, n)
		for _, arg := range slices.Concat(numbers, beyond) {
			m := request(Size, c, arg)
			m.Data = []byte("data")
			if r := a.serve(t, m); r.Status != 0 || r.Arg != n || len(r.Data) != 0 || r.Cap != (api.Cap{}) {
				t.Fatal(n, arg, r)
			}
		}
		to := min(n+100, 262144)
		a.asks(t, Grow, c, to, 0)
		if r := a.asks(t, Size, c, 0, 0); r.Arg != to {
			t.Fatal(n, r)
		}
	}
}

// P25.3: Destroy deletes the segment: its pages are free for the next Make, whose bytes are 0, and nothing opens it any more.
func TestDestroy(t *testing.T) {
	a := fill(t, 3, 40, 192)
	own := a.d.owner(1)
	see := a.mask(t, own, 1)
	a.asks(t, Make, a.d.owner(0), 1, api.ErrMemory)
	a.asks(t, skeleton.Destroy, see, 0, api.ErrRights)
	a.asks(t, Make, a.d.owner(0), 1, api.ErrMemory)
	a.bytes(t, 1, 0, string(letters(192)))
	a.asks(t, skeleton.Destroy, a.mask(t, own, 8), 0, 0)
	for op := Read; op <= Grow; op++ {
		a.asks(t, op, own, 0, api.ErrCapability)
		a.asks(t, op, see, 0, api.ErrCapability)
	}
	c := a.make(t, 192)
	if c.Object != 1 {
		t.Fatal(c)
	}
	a.bytes(t, 1, 0, string(make([]byte, 192)))
	a.asks(t, Read, own, 1, api.ErrCapability)
	a.asks(t, Read, see, 1, api.ErrCapability)
}

// P25.3: what nobody touches ends by Age, and with it its segment; what was touched is there still; the root stays.
func TestAge(t *testing.T) {
	a := fill(t, 6, 40, 64, 64, 64, 64)
	see := a.mask(t, a.d.owner(2), 1)
	for range 20 {
		if a.age(t) != 0 {
			t.Fatal("one ended")
		}
	}
	a.asks(t, skeleton.Touch, see, 0, 0)
	a.asks(t, skeleton.Destroy, a.d.owner(3), 0, 0)
	for range 3 {
		a.age(t)
	}
	if n := a.age(t); n != 2 {
		t.Fatal(n)
	}
	a.room(t, 5)
	a.asks(t, Size, see, 0, 0)
	for range 20 {
		a.age(t)
	}
	a.room(t, 6)
	for range 60 {
		a.age(t)
	}
	a.make(t, 384)
	a.bytes(t, 1, 0, string(make([]byte, 384)))
}

// P25.2: no operation of the memory's own has an object live on.
func TestNotTouched(t *testing.T) {
	a := fill(t, 6, 4, 64)
	for range 23 {
		a.age(t)
		a.asks(t, Size, a.d.owner(1), 0, 0)
		a.puts(t, a.d.owner(1), 0, []byte("ab"), 0)
		a.asks(t, Read, a.d.owner(1), 2, 0)
		a.asks(t, Grow, a.d.owner(1), 64, 0)
	}
	if n := a.age(t); n != 1 {
		t.Fatal(n)
	}
	a.room(t, 6)
}

// P25.3: Gone by itself deletes the segment of a value, leaves those of others, and changes nothing of a value that no segment has.
func TestGone(t *testing.T) {
	for _, value := range values {
		a := bare(9, 9)
		for _, n := range []uint64{100, 64, 30, 0} {
			a.do(t, Make, Root, api.Message{Arg: n})
		}
		a.do(t, Write, 2, api.Message{Arg: 10, Data: []byte("kept")})
		for range 3 {
			a.s.Gone(value)
			delete(a.d.segs, value)
			a.look(t, "Gone")
		}
		a.do(t, Size, value, api.Message{})
		want := api.ErrMemory
		if value >= 0 && value <= 2 {
			want = 0
		}
		// Five pages were free ahead of Gone.
		if r, fault := a.do(t, Make, Root, api.Message{Arg: 6 * 64}); fault != want {
			t.Fatal(value, r, fault)
		}
	}
}

// P25.3: the pages of each segment that is gone are free, no fewer and no more.
func TestGonePages(t *testing.T) {
	a := bare(10, 20)
	for _, n := range []uint64{0, 1, 64, 65, 128, 129} {
		a.do(t, Make, Root, api.Message{Arg: n})
	}
	for value, want := range []int{1, 2, 3, 5, 7, 10} {
		a.s.Gone(value)
		delete(a.d.segs, value)
		if got := a.s.segments.Left(); got != want {
			t.Fatal(value, got, want)
		}
		a.look(t, "Gone")
	}
}

// Numbers of segments and of objects are not the same, nor a fixed way apart: objects that others made in the table stand for what they were said to.
func TestForeign(t *testing.T) {
	a := over(t, 3, 20, draws(40)...)
	none := a.foreign(t, 5)
	a.make(t, 30)
	high := a.foreign(t, math.MaxInt)
	a.make(t, 40)
	for _, c := range []api.Cap{none, high, a.foreign(t, math.MinInt)} {
		for op := Read; op <= Grow; op++ {
			a.asks(t, op, c, 1, api.ErrNotFound)
		}
		a.asks(t, Make, c, 1, api.ErrCommand)
		a.asks(t, Read, c, 4097, api.ErrArgument)
		a.asks(t, Write, c, 1<<31, api.ErrArgument)
	}
	second := a.foreign(t, Root)
	a.asks(t, Make, second, 50, 0)
	a.asks(t, Size, second, 0, api.ErrCommand)
	twin := a.foreign(t, 1)
	a.puts(t, twin, 7, []byte("both"), 0)
	a.bytes(t, 4, 7, "both")
	a.asks(t, skeleton.Destroy, twin, 0, 0)
	a.asks(t, Size, a.d.owner(4), 0, api.ErrNotFound)
	a.asks(t, skeleton.Destroy, a.d.owner(4), 0, 0)
	a.asks(t, skeleton.Destroy, second, 0, 0)
	a.asks(t, skeleton.Destroy, high, 0, 0)
	if c := a.make(t, 60); c.Object != 3 {
		t.Fatal(c)
	}
	if v, ok := a.t.Value(3); v != 1 || !ok {
		t.Fatal(v, ok)
	}
}

// W4: where several things are wrong, the one that is named first is told.
func TestOrder(t *testing.T) {
	a := fill(t, 4, 3, 100)
	see := a.mask(t, a.d.owner(1), 1)
	odd := see
	odd.Check++
	far := see
	far.Port |= 1 << 48
	for _, x := range []struct {
		op   uint16
		c    api.Cap
		arg  uint64
		want api.Errno
	}{
		{rest, far, math.MaxUint64, api.ErrCapability},
		{rest, odd, math.MaxUint64, api.ErrCommand},
		{Grow, odd, math.MaxUint64, api.ErrCapability},
		{Grow, see, math.MaxUint64, api.ErrRights},
		{Make, see, math.MaxUint64, api.ErrRights},
		{Make, a.d.owner(1), math.MaxUint64, api.ErrCommand},
		{Grow, a.d.owner(0), math.MaxUint64, api.ErrCommand},
		{Read, see, 1<<63 + 4097, api.ErrArgument},
		{Read, see, 101<<32 + 4097, api.ErrArgument},
		{Read, see, 101<<32 + 4096, api.ErrBounds},
		{Grow, a.d.owner(1), 99, api.ErrArgument},
	} {
		a.asks(t, x.op, x.c, x.arg, x.want)
	}
}

// W6: what is written is a copy, what is read is new memory, also where there is room behind the data's length.
func TestMemory(t *testing.T) {
	s := bare(3, 3).s
	s.Do(Make, Root, api.Message{Arg: 150})
	whole := []byte("abcdefgh")
	m := api.Message{Arg: 62, Data: whole[:4]}
	if r, e := s.Do(Write, 0, m); e != nil || len(r.Data) != 0 || string(whole) != "abcdefgh" {
		t.Fatal(r, e, string(whole))
	}
	copy(whole, "zzzz")
	one, _ := s.Do(Read, 0, api.Message{Arg: 62<<32 + 5})
	two, _ := s.Do(Read, 0, api.Message{Arg: 62<<32 + 5})
	if string(one.Data) != "abcd\x00" || string(two.Data) != "abcd\x00" {
		t.Fatal(string(one.Data), string(two.Data))
	}
	copy(one.Data, "yyyyy")
	_ = append(one.Data[:2], "xx"...)
	three, _ := s.Do(Read, 0, api.Message{Arg: 62<<32 + 5})
	if string(two.Data) != "abcd\x00" || string(three.Data) != "abcd\x00" {
		t.Fatal(string(two.Data), string(three.Data))
	}
}

// W1: a zero Server, which Of did not make, has no pages and no objects, and does not panic.
func TestZero(t *testing.T) {
	s := &Server{}
	for _, op := range ops {
		for _, value := range values {
			for _, arg := range slices.Concat(numbers, beyond) {
				r, e := s.Do(op, value, api.Message{Arg: arg, Data: []byte("ab")})
				if e == nil || r.Cap != (api.Cap{}) || r.Arg != 0 || len(r.Data) != 0 {
					t.Fatal(op, value, arg, r, e)
				}
			}
			s.Gone(value)
		}
	}
}

// W1: any number, value, operation and data whatever: nothing panics, and beside an error there is nothing.
func TestAny(t *testing.T) {
	a := bare(30, 30)
	a.do(t, Make, Root, api.Message{Arg: 300})
	draw := strew(99)
	for range 4000 {
		m := api.Message{To: wide(draw), Reply: wide(draw), Op: uint16(wide(draw)), Cap: api.Cap{Port: wide(draw), Check: wide(draw)}, Arg: wide(draw), Data: make([]byte, draw(3)*draw(200))}
		op := Make + uint16(draw(6))
		if draw(9) == 0 {
			op = uint16(wide(draw))
		}
		value := values[draw(len(values))]
		if draw(2) == 0 {
			value = 0
		}
		a.do(t, op, value, m)
	}
}

// wide is a number of any bits, of which often few stand.
func wide(draw func(n int) int) uint64 {
	n := uint64(draw(1<<31))<<40 ^ uint64(draw(1<<31))<<20 ^ uint64(draw(1<<31))
	return n >> draw(64)
}

// P25.1 to P25.3: a memory's life, by hand: segments made, handed on with fewer rights, grown, read, revoked, destroyed, aged and made anew.
func TestMixed(t *testing.T) {
	a := over(t, 3, 4, draws(30)...)
	root := a.d.owner(0)
	maker := a.mask(t, root, 4)
	one := a.asks(t, Make, maker, 100, 0).Cap
	a.asks(t, Make, a.mask(t, root, 251), 100, api.ErrRights)
	see, put := a.mask(t, one, 1), a.mask(t, one, 2)
	a.puts(t, put, 60, []byte("over the end"), 0)
	a.puts(t, see, 60, []byte("nothing"), api.ErrRights)
	if r := a.asks(t, Read, see, 59<<32+14, 0); string(r.Data) != "\x00over the end\x00" {
		t.Fatal(r)
	}
	a.asks(t, Read, put, 59<<32+14, api.ErrRights)
	a.asks(t, Size, put, 0, api.ErrRights)
	a.asks(t, Grow, see, 128, api.ErrRights)
	a.asks(t, Grow, put, 129, 0)
	two := a.asks(t, Make, maker, 64, 0).Cap
	a.asks(t, Make, maker, 1, api.ErrMemory)
	a.asks(t, Grow, put, 193, api.ErrMemory)
	newer := a.asks(t, skeleton.Revoke, one, 0, 0).Cap
	a.asks(t, Size, see, 0, api.ErrCapability)
	if r := a.asks(t, Size, newer, 0, 0); r.Arg != 129 {
		t.Fatal(r)
	}
	for range 12 {
		a.age(t)
	}
	a.asks(t, skeleton.Touch, two, 0, 0)
	for range 12 {
		a.age(t)
	}
	three := a.asks(t, Make, maker, 192, 0).Cap
	if three.Object != 1 || three.Check == newer.Check {
		t.Fatal(three)
	}
	a.bytes(t, 1, 50, string(make([]byte, 100)))
	a.asks(t, skeleton.Destroy, two, 0, 0)
	a.asks(t, Grow, three, 256, 0)
}

// latest is the place of the capability that was told last.
const latest = math.MaxInt

// steps is requests to a memory of six pages, by the root, by the capability that was told first, and by the latest, and rounds.
func steps(t *testing.T) []func(a pair, told *[]api.Cap) {
	ask := func(op uint16, which int, arg uint64, data string) func(a pair, told *[]api.Cap) {
		return func(a pair, told *[]api.Cap) {
			last := len(*told) - 1
			m := request(op, (*told)[min(which, last)], arg)
			m.Data = []byte(data)
			if r := a.serve(t, m); r.Cap != (api.Cap{}) {
				*told = append(*told, r.Cap)
			}
		}
	}
	return []func(a pair, told *[]api.Cap){
		ask(Make, 0, 70, ""),
		ask(Make, 0, 64, ""),
		ask(Write, latest, 60, "some"),
		ask(Write, 1, 62, "words"),
		ask(Read, latest, 61<<32+6, ""),
		ask(Grow, 1, 130, ""),
		ask(Grow, latest, 200, ""),
		ask(skeleton.Destroy, 1, 0, ""),
		ask(skeleton.Destroy, latest, 0, ""),
		ask(skeleton.Restrict, latest, 11, ""),
		ask(skeleton.Revoke, 1, 0, ""),
		func(a pair, told *[]api.Cap) {
			for range 12 {
				a.age(t)
			}
		},
	}
}

// P25.1 to P25.3: each run of four of the steps, with few draws, and with enough.
func TestRuns(t *testing.T) {
	all := steps(t)
	const length = 4
	runs := 1
	for range length {
		runs *= len(all)
	}
	for r := range runs {
		a := over(t, 3, 6, draws(3+r%6)...)
		told := []api.Cap{a.d.owner(0)}
		for rest, k := r, 0; k < length; rest, k = rest/len(all), k+1 {
			all[rest%len(all)](a, &told)
		}
		for _, c := range told {
			a.serve(t, request(Size, c, 0))
		}
	}
}

// strew is a source of numbers below n.
func strew(seed uint64) func(n int) int {
	state := seed + 25
	return func(n int) int {
		state = state*6364136223846793005 + 1442695040888963407
		return int(state>>33) % n
	}
}

// turned is a capability with something of it turned, or nothing.
func turned(c api.Cap, draw func(n int) int) api.Cap {
	switch draw(40) {
	case 0:
		c.Port ^= 1 << draw(64)
	case 1:
		c.Object ^= 1 << draw(32)
	case 2:
		c.Rights ^= 1 << draw(8)
	case 3:
		c.Check ^= 1 << draw(64)
	case 4:
		c.Object = uint32(draw(8))
	}
	return c
}

// size is a number of bytes up to somewhat more than a memory has, often at a page's edge.
func size(draw func(n int) int, pages int) uint64 {
	switch draw(12) {
	case 0:
		return slices.Concat(numbers, beyond)[draw(len(numbers)+len(beyond))]
	case 1, 2, 3:
		return uint64(draw(pages+2)*64 + draw(2))
	}
	return uint64(draw(1 + draw(64*pages+65)))
}

// strewn is a request of any operation.
func strewn(draw func(n int) int, pages int, c api.Cap) api.Message {
	known := []uint16{skeleton.Info, skeleton.Touch, skeleton.Restrict, skeleton.Revoke, skeleton.Destroy, Make, Make, Make, Make, Read, Read, Write, Write, Size, Grow, Grow}
	m := api.Message{To: uint64(draw(1 << 30)), Reply: uint64(draw(1 << 30)), ID: uint32(draw(1 << 30)), Op: known[draw(len(known))], Status: uint16(draw(1 << 16)), Cap: c}
	if draw(15) == 0 {
		m.Op = ops[draw(len(ops))]
	}
	m.Arg = size(draw, pages)
	switch m.Op {
	case Read:
		m.Arg = size(draw, pages)<<32 + min(size(draw, pages), 1<<32-1)
	case Write:
		m.Data = bytes.Repeat([]byte{byte(draw(256)), byte(draw(256)), 3}, draw(30))
	case skeleton.Restrict:
		m.Arg = uint64(draw(256) | draw(256))
	}
	return m
}

// P25.1 to P25.3: long strewn runs of all operations, by capabilities that were told at any time, whole and turned, with rounds between them.
func TestStrewn(t *testing.T) {
	seen := map[uint16]map[uint16]int{}
	aged := 0
	for seed := range uint64(250) {
		draw := strew(seed)
		pages := draw(24)
		a := over(t, uint64(draw(1<<20)), pages, draws(3+draw(5+draw(150)))...)
		told := []api.Cap{a.d.owner(0)}
		ages := draw(9)
		for range 150 {
			if draw(20) < ages {
				aged += a.age(t)
				continue
			}
			c := told[max(draw(len(told)), draw(len(told)))]
			m := strewn(draw, pages, c)
			if m.Op == Make && draw(4) > 0 {
				m.Cap = a.d.owner(0)
			}
			m.Cap = turned(m.Cap, draw)
			r := a.serve(t, m)
			if seen[m.Op] == nil {
				seen[m.Op] = map[uint16]int{}
			}
			seen[m.Op][r.Status]++
			if r.Cap != (api.Cap{}) {
				told = append(told, r.Cap)
			}
		}
	}
	often(t, seen)
	if aged < 50 {
		t.Errorf("%d grew old alone", aged)
	}
}

// often holds that strewn runs met each thing that is told of an operation.
func often(t *testing.T, seen map[uint16]map[uint16]int) {
	t.Helper()
	always := []api.Errno{0, api.ErrCapability, api.ErrTape}
	for op, more := range map[uint16][]api.Errno{
		skeleton.Info:    nil,
		skeleton.Destroy: {api.ErrRights, api.ErrState},
		Make:             {api.ErrRights, api.ErrCommand, api.ErrArgument, api.ErrMemory},
		Read:             {api.ErrRights, api.ErrCommand, api.ErrArgument, api.ErrBounds},
		Write:            {api.ErrRights, api.ErrCommand, api.ErrArgument, api.ErrBounds},
		Size:             {api.ErrRights, api.ErrCommand},
		Grow:             {api.ErrRights, api.ErrCommand, api.ErrArgument, api.ErrMemory},
	} {
		for _, fault := range append(slices.Clone(always), more...) {
			if n := seen[op][uint16(fault)]; n < 5 {
				t.Errorf("operation %d: %s came %d times alone", op, fmt.Sprint("status ", int(fault)), n)
			}
		}
	}
}
