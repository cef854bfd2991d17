package file

import (
	"bytes"
	"fmt"
	"math"
	"reflect"
	"slices"
	"strings"
	"testing"

	"sigillum/api"
	"sigillum/objects"
	"sigillum/oracle"
	"sigillum/skeleton"
	"sigillum/tape"
)

// The edges of numbers, of the operations, and of what objects stand for.
var (
	numbers = []uint64{0, 1, 2, 3, 4, 5, 63, 64, 65, 4095, 4096, 4097, 65535, 65536, 65537, 1<<31 - 1, 1 << 31, 1<<31 + 1, 1<<32 - 1, 1 << 32, 1<<32 + 1, 1<<32 + 2, 2 << 32, 3<<32 + 1, 3<<32 + 4097, 1 << 48, 1<<63 - 1, 1 << 63, 1<<63 + 1, math.MaxUint64 - 4096, math.MaxUint64 - 1, math.MaxUint64}
	ops     = []uint16{0, 1, 2, 3, 4, 5, 6, 50, 98, 99, 100, 101, 102, 103, 104, 105, 106, 200, 255, 256, 356, 357, 1 << 15, 1<<16 - 2, 1<<16 - 1}
	values  = []int{-1, 0, 1, 2, 3, 62, 63, 64, 65, -2, -64, 1 << 31, 1 << 32, math.MaxInt, math.MinInt, math.MinInt + 1}
)

// rest is an operation behind the last one of files.
const rest = Edit + 1

// all is how many bytes there may be.
const all = 65536

// plenty is more letters than there may be.
var plenty = strings.Repeat("0123456789abcdefghijklmnopqrstuvwxyz", 2000)

// zeros is one byte more than there may be.
var zeros = make([]byte, all+1)

// fact is what the model knows of an object: all secrets that were drawn for it, of which the last one holds, and the round in which it was made or touched last.
type fact struct {
	secrets []uint64
	value   int
	since   int
}

// model has files as texts, and no count of bytes: how many are there it works out, as it does epochs and rounds.
type model struct {
	port  uint64
	list  []uint64 // the draws that are left
	asked map[uint64]uint64
	round int
	facts map[int]fact
	texts map[int]string
	made  int
}

func (d *model) draw() (uint64, api.Errno) {
	if len(d.list) == 0 {
		return 0, api.ErrTape
	}
	word := d.list[0] % (1 << 48)
	d.list = d.list[1:]
	return word, 0
}

// secret is that of object k, or 0, where there is none.
func (d *model) secret(k int) uint64 {
	known := append([]uint64{0}, d.facts[k].secrets...)
	return known[len(known)-1]
}

// check is the check of object k for rights.
func (d *model) check(k int, rights uint8) (uint64, api.Errno) {
	if rights == 255 {
		return d.secret(k), 0
	}
	in := d.secret(k) ^ uint64(rights)
	if out, ok := d.asked[in]; ok {
		return out, 0
	}
	out, fault := d.draw()
	if fault == 0 {
		d.asked[in] = out
	}
	return out, fault
}

// owner is the owner's capability of object k.
func (d *model) owner(k int) api.Cap {
	return api.Cap{Port: d.port, Object: uint32(k), Rights: 255, Check: d.secret(k)}
}

// rounds is how many object k lives on.
func (d *model) rounds(k int) int {
	if k == 0 {
		return 24
	}
	return 24 - (d.round - d.facts[k].since)
}

// create is an object that stands for something.
func (d *model) create(value int) (api.Cap, api.Errno) {
	if len(d.facts) == 64 {
		return api.Cap{}, api.ErrFull
	}
	secret, fault := d.draw()
	if fault != 0 {
		return api.Cap{}, fault
	}
	for k := 0; ; k++ {
		if _, ok := d.facts[k]; !ok {
			d.facts[k] = fact{[]uint64{secret}, value, d.round}
			return d.owner(k), 0
		}
	}
}

// take is the object that a capability opens for some rights.
func (d *model) take(c api.Cap, need uint8) (int, api.Errno) {
	k := int(c.Object)
	if _, ok := d.facts[k]; !ok || c.Port != d.port {
		return 0, api.ErrCapability
	}
	check, fault := d.check(k, c.Rights)
	switch {
	case fault != 0:
		return 0, fault
	case check != c.Check:
		return 0, api.ErrCapability
	}
	for bit := uint8(1); bit != 0; bit <<= 1 {
		if need&bit != 0 && c.Rights&bit == 0 {
			return 0, api.ErrRights
		}
	}
	return k, 0
}

// taken is how many bytes there are.
func (d *model) taken() int {
	n := 0
	for _, text := range d.texts {
		n += len(text)
	}
	return n
}

// new makes a file, and an object for it.
func (d *model) new(text string) (skeleton.Result, api.Errno) {
	if d.taken()+len(text) > 65536 {
		return skeleton.Result{}, api.ErrMemory
	}
	c, fault := d.create(d.made)
	if fault != 0 {
		return skeleton.Result{}, fault
	}
	d.texts[d.made] = text
	d.made++
	return skeleton.Result{Cap: c}, 0
}

// laid is a text that another one is laid over from a place on, letter by letter.
func laid(text string, at int, over string) string {
	b := []byte(text)
	for k := range len(over) {
		if at+k == len(b) {
			b = append(b, 0)
		}
		b[at+k] = over[k]
	}
	return string(b)
}

// do is what an operation does to a value.
func (d *model) do(op uint16, value int, m api.Message) (skeleton.Result, api.Errno) {
	none := skeleton.Result{}
	if op == 100 && value == -1 {
		return d.new(string(m.Data))
	}
	if op <= 100 || op > 103 || value == -1 {
		return none, api.ErrCommand
	}
	text := d.texts[value]
	size := uint64(len(text))
	switch {
	case op == 102:
		return skeleton.Result{Arg: size}, 0
	case op == 103 && m.Arg > size:
		return none, api.ErrBounds
	case op == 103:
		return d.new(laid(text, int(m.Arg), string(m.Data)))
	}
	at, many := m.Arg/4294967296, m.Arg%4294967296
	switch {
	case many > 4096:
		return none, api.ErrArgument
	case at > size || size-at < many:
		return none, api.ErrBounds
	}
	return skeleton.Result{Data: []byte(text[at:][:many])}, 0
}

// work is what comes of a request.
func (d *model) work(m api.Message) (skeleton.Result, api.Errno) {
	none := skeleton.Result{}
	needs := map[uint16]uint8{1: 0, 2: 0, 3: 0, 4: 255, 5: 8, 100: 4, 101: 1, 102: 1, 103: 5}
	need, ok := needs[m.Op]
	switch {
	case m.Cap.Port>>48 != 0 || m.Cap.Check>>48 != 0 || m.Cap.Object>>24 != 0:
		return none, api.ErrCapability
	case !ok:
		return none, api.ErrCommand
	}
	k, fault := d.take(m.Cap, need)
	if fault != 0 {
		return none, fault
	}
	f := d.facts[k]
	switch m.Op {
	case 1:
		return skeleton.Result{Arg: uint64(len(f.secrets)-1)*4294967296 + uint64(d.rounds(k))}, 0
	case 2:
		d.facts[k] = fact{f.secrets, f.value, d.round}
		return none, 0
	case 3:
		rights := uint8(m.Arg%256) & m.Cap.Rights
		check, fault := d.check(k, rights)
		if fault != 0 {
			return none, fault
		}
		return skeleton.Result{Cap: api.Cap{Port: d.port, Object: uint32(k), Rights: rights, Check: check}}, 0
	case 4:
		secret, fault := d.draw()
		if fault != 0 {
			return none, fault
		}
		d.facts[k] = fact{append(slices.Clone(f.secrets), secret), f.value, f.since}
		return skeleton.Result{Cap: d.owner(k)}, 0
	case 5:
		if k == 0 {
			return none, api.ErrState
		}
		d.end(k)
		return none, 0
	}
	return d.do(m.Op, f.value, m)
}

// end has object k be no more, nor the file that it stands for.
func (d *model) end(k int) {
	delete(d.texts, d.facts[k].value)
	delete(d.facts, k)
}

func (d *model) age() int {
	d.round++
	gone := 0
	for k := range 64 {
		if _, ok := d.facts[k]; ok && d.rounds(k) == 0 {
			d.end(k)
			gone++
		}
	}
	return gone
}

// reply is what is to be answered to a request.
func (d *model) reply(m api.Message) api.Message {
	r, fault := d.work(m)
	return api.Message{To: m.Reply, Reply: m.To, ID: m.ID, Op: m.Op, Status: uint16(fault), Cap: r.Cap, Arg: r.Arg, Data: r.Data}
}

// alike is a message with memory of its own.
func alike(m api.Message) api.Message {
	m.Data = append([]byte(nil), m.Data...)
	return m
}

// same is whether two messages are the same; data without bytes is nil or empty, as one likes.
func same(a, b api.Message) bool { return reflect.DeepEqual(alike(a), alike(b)) }

// pair is a server of files, and the model of it; where s is there, it is that server's service.
type pair struct {
	x *skeleton.Server
	s *Server
	t *objects.Table
	o *oracle.Oracle
	d *model
}

// facing is a model ahead of everything.
func facing(port uint64, list []uint64) *model {
	return &model{port: port, list: list, asked: map[uint64]uint64{}, facts: map[int]fact{}, texts: map[int]string{}}
}

// over is a server with its root, and its draws.
func over(t *testing.T, port uint64, list ...uint64) pair {
	t.Helper()
	o := oracle.Of(tape.Of(list))
	a := pair{t: objects.Of(port, o), o: o, d: facing(port, list)}
	want, fault := a.d.create(-1)
	x, root, e := Of(a.t)
	if root != want || api.Number(e) != fault || (x == nil) != (e != nil) {
		t.Fatalf("Of: %v, %v, %v; want %v, %v", x, root, e, want, fault)
	}
	a.x = x
	a.look(t, "Of")
	return a
}

// bare is a service whose table has so many draws, and no object.
func bare(draw int) pair {
	list := draws(draw)
	o := oracle.Of(tape.Of(list))
	t := objects.Of(3, o)
	s := &Server{objects: t}
	return pair{skeleton.Of(t, s), s, t, o, facing(3, list)}
}

// draws is a list of as many words: 1000, 2000, and so on.
func draws(many int) []uint64 {
	list := make([]uint64, many)
	for k := range list {
		list[k] = 1000 * uint64(k+1)
	}
	return list
}

// fill is a server of the port 3 with some files, and with so many draws left.
func fill(t *testing.T, left int, texts ...string) pair {
	t.Helper()
	a := over(t, 3, draws(1+len(texts)+left)...)
	for _, text := range texts {
		a.make(t, text)
	}
	return a
}

// letters is so many bytes that are not 0, of which none is as the ones beside it.
func letters(many int) string {
	b := make([]byte, many)
	for k := range b {
		b[k] = byte(1 + k%251)
	}
	return string(b)
}

// look holds all that can be seen without a draw against the model.
func (a pair) look(t *testing.T, after string) {
	t.Helper()
	if a.t.Len() != len(a.d.facts) || a.o.Left() != len(a.d.list) || len(a.o.Entries()) != len(a.d.asked) {
		t.Fatalf("after %s: %d objects, %d left, %d asked; want %d, %d, %d", after, a.t.Len(), a.o.Left(), len(a.o.Entries()), len(a.d.facts), len(a.d.list), len(a.d.asked))
	}
	for k := range 64 {
		f, there := a.d.facts[k]
		if v, ok := a.t.Value(k); v != f.value || ok != there {
			t.Fatalf("after %s: Value(%d): %d, %v; want %d, %v", after, k, v, ok, f.value, there)
		}
		if !there {
			continue
		}
		if e, r, err := a.t.Info(a.d.owner(k)); e != len(f.secrets)-1 || r != a.d.rounds(k) || err != nil {
			t.Fatalf("after %s: Info of %d: %d, %d, %v; want %d, %d", after, k, e, r, err, len(f.secrets)-1, a.d.rounds(k))
		}
		a.whole(t, after, k)
	}
	a.more(t, after)
}

// more holds that there is no room for one byte more than the model says; whether there is less of it is seen where a test fills it.
func (a pair) more(t *testing.T, after string) {
	t.Helper()
	m := api.Message{Op: 100, Cap: a.d.owner(0), Data: zeros[:all-a.d.taken()+1]}
	fault := api.ErrMemory
	switch f, there := a.d.facts[0]; {
	case a.s != nil:
		_, e := a.s.Do(100, -1, m)
		fault = api.Number(e)
	case there && f.value == -1:
		fault = api.Errno(a.x.Serve(m).Status)
	}
	if fault != api.ErrMemory {
		t.Fatalf("after %s: Make of %d bytes: %v", after, len(m.Data), fault)
	}
}

// whole holds the bytes of what object k stands for against the model.
func (a pair) whole(t *testing.T, after string, k int) {
	t.Helper()
	own, value := a.d.owner(k), a.d.facts[k].value
	text := a.d.texts[value]
	want := api.Message{Op: 102, Arg: uint64(len(text))}
	if value == -1 {
		want.Status = uint16(api.ErrCommand)
	}
	if r := a.x.Serve(api.Message{Op: 102, Cap: own}); !same(r, want) {
		t.Fatalf("after %s: the size of %d: %v; want %v", after, k, r, want)
	}
	for at := 0; at < len(text); at += 4096 {
		part := text[at:min(at+4096, len(text))]
		r := a.x.Serve(api.Message{Op: 101, Cap: own, Arg: uint64(at)<<32 + uint64(len(part))})
		if r.Status != 0 || string(r.Data) != part {
			t.Fatalf("after %s: object %d has at %d, status %d: %q; want %q", after, k, at, r.Status, r.Data, part)
		}
	}
}

// serve holds a reply against the model, what was handed in against what it was, and writes into both: nothing of the server hangs on them.
func (a pair) serve(t *testing.T, m api.Message) api.Message {
	t.Helper()
	held := alike(m)
	want := a.d.reply(alike(m))
	got := a.x.Serve(m)
	if !same(got, want) {
		t.Fatalf("Serve(%v): %v; want %v", held, got, want)
	}
	if !same(m, held) {
		t.Fatalf("Serve wrote into what was handed in: %v; it was %v", m, held)
	}
	for k := range got.Data {
		got.Data[k] ^= 0x55
	}
	if !same(m, held) {
		t.Fatal("what is answered shares memory with what was handed in")
	}
	for k := range m.Data {
		m.Data[k] ^= 0x33
	}
	a.look(t, "Serve")
	return want
}

// do holds what the service does by itself against the model, as serve does.
func (a pair) do(t *testing.T, op uint16, value int, m api.Message) (skeleton.Result, api.Errno) {
	t.Helper()
	held := alike(m)
	want, fault := a.d.do(op, value, alike(m))
	got, e := a.s.Do(op, value, m)
	if api.Number(e) != fault || (e == nil) != (fault == 0) {
		t.Fatalf("Do(%d, %d, %v): %v; want %v", op, value, held, e, fault)
	}
	if got.Cap != want.Cap || got.Arg != want.Arg || !bytes.Equal(got.Data, want.Data) {
		t.Fatalf("Do(%d, %d, %v): %v; want %v", op, value, held, got, want)
	}
	if !same(m, held) {
		t.Fatalf("Do wrote into what was handed in: %v; it was %v", m, held)
	}
	for k := range got.Data {
		got.Data[k] ^= 0x55
	}
	for k := range m.Data {
		m.Data[k] ^= 0x33
	}
	a.look(t, "Do")
	return want, fault
}

// request is one whose every part says something.
func request(op uint16, c api.Cap, arg uint64, data string) api.Message {
	return api.Message{To: 21, Reply: 22, ID: 23, Op: op, Status: 24, Cap: c, Arg: arg, Data: []byte(data)}
}

// asks holds the error of an answer; what stands beside it is held against the model.
func (a pair) asks(t *testing.T, op uint16, c api.Cap, arg uint64, data string, want api.Errno) api.Message {
	t.Helper()
	r := a.serve(t, request(op, c, arg, data))
	if r.Status != uint16(want) {
		t.Fatalf("operation %d by %v with %d and %d bytes: %v; want %v", op, c, arg, len(data), api.Errno(r.Status), want)
	}
	return r
}

// make makes a file.
func (a pair) make(t *testing.T, text string) api.Cap {
	t.Helper()
	return a.asks(t, Make, a.d.owner(0), 0, text, 0).Cap
}

// edit makes a file of the one that a capability is for.
func (a pair) edit(t *testing.T, c api.Cap, at uint64, text string) api.Cap {
	t.Helper()
	return a.asks(t, Edit, c, at, text, 0).Cap
}

// text holds a file against one that is written out, by its size and by reading it.
func (a pair) text(t *testing.T, c api.Cap, want string) {
	t.Helper()
	if r := a.asks(t, Size, c, 0, "", 0); r.Arg != uint64(len(want)) {
		t.Fatalf("%v has %d bytes; want %d", c, r.Arg, len(want))
	}
	for at := 0; at < len(want); at += 4096 {
		part := want[at:min(at+4096, len(want))]
		if r := a.asks(t, Read, c, uint64(at)<<32+uint64(len(part)), "", 0); string(r.Data) != part {
			t.Fatalf("%v has at %d: %q; want %q", c, at, r.Data, part)
		}
	}
}

// mask is a restricted capability.
func (a pair) mask(t *testing.T, c api.Cap, rights uint8) api.Cap {
	t.Helper()
	return a.asks(t, skeleton.Restrict, c, uint64(rights), "", 0).Cap
}

// foreign makes an object that the server of files did not.
func (a pair) foreign(t *testing.T, value int) api.Cap {
	t.Helper()
	want, fault := a.d.create(value)
	if c, e := a.t.Create(value); c != want || api.Number(e) != fault {
		t.Fatalf("Create(%d): %v, %v; want %v, %v", value, c, e, want, fault)
	}
	a.look(t, "Create")
	return want
}

func (a pair) age(t *testing.T) int {
	t.Helper()
	want := a.d.age()
	if n := a.x.Age(); n != want {
		t.Fatalf("Age: %d; want %d", n, want)
	}
	a.look(t, "Age")
	return want
}

// room holds that there is room for so many bytes, no fewer and no more: a file of them is made and destroyed.
func (a pair) room(t *testing.T, many int) {
	t.Helper()
	a.asks(t, Make, a.d.owner(0), 0, plenty[:many+1], api.ErrMemory)
	c := a.make(t, plenty[:many])
	a.asks(t, skeleton.Destroy, c, 0, "", 0)
}

// P27.1 to P27.3: the chapter's example.
func TestExample(t *testing.T) {
	x, root, e := Of(objects.Of(7, oracle.Of(tape.Of([]uint64{5, 6, 8}))))
	if e != nil || root != (api.Cap{Port: 7, Rights: 255, Check: 5}) {
		t.Fatal(root, e)
	}
	c := x.Serve(api.Message{Op: Make, Cap: root, Data: []byte("abc")})
	if !same(c, api.Message{Op: 100, Cap: api.Cap{Port: 7, Object: 1, Rights: 255, Check: 6}}) {
		t.Fatal(c)
	}
	d := x.Serve(api.Message{Op: Edit, Cap: c.Cap, Arg: 1, Data: []byte("X")})
	if !same(d, api.Message{Op: 103, Cap: api.Cap{Port: 7, Object: 2, Rights: 255, Check: 8}}) {
		t.Fatal(d)
	}
	if r := x.Serve(api.Message{Op: Read, Cap: d.Cap, Arg: 3}); !same(r, api.Message{Op: 101, Data: []byte("aXc")}) {
		t.Error(r)
	}
	if r := x.Serve(api.Message{Op: Read, Cap: c.Cap, Arg: 3}); !same(r, api.Message{Op: 101, Data: []byte("abc")}) {
		t.Error(r)
	}
	if r := x.Serve(api.Message{Op: Size, Cap: c.Cap}); !same(r, api.Message{Op: 102, Arg: 3}) {
		t.Error(r)
	}
}

// The operations are numbers that others know, too, and so is what the root stands for.
func TestOperations(t *testing.T) {
	if !slices.Equal([]uint16{Make, Read, Size, Edit}, []uint16{100, 101, 102, 103}) || Root != -1 {
		t.Error(Make, Read, Size, Edit, Root)
	}
}

// The server is an interface to its skeleton.
func TestInterface(t *testing.T) {
	var s skeleton.Service = &Server{}
	if need, ok := s.Need(Edit); need != 5 || !ok {
		t.Error(need, ok)
	}
}

// P27.1: Of takes one draw, for the object 0, which stands for Root, and answers the capability of its owner, of the table's port.
func TestOf(t *testing.T) {
	for _, port := range []uint64{0, 1, 3, 1 << 32, api.Word} {
		for _, list := range [][]uint64{{5}, {0, 1}, {api.Word, 7, 7}, {1 << 48, 2}, {math.MaxUint64}} {
			o := oracle.Of(tape.Of(list))
			x := objects.Of(port, o)
			s, c, e := Of(x)
			if s == nil || e != nil || c != (api.Cap{Port: port, Rights: 255, Check: list[0] & api.Word}) {
				t.Fatal(port, list, s, c, e)
			}
			if v, ok := x.Value(0); v != -1 || !ok || x.Len() != 1 || o.Left() != len(list)-1 || len(o.Entries()) != 0 {
				t.Fatal(v, ok, x.Len(), o.Left())
			}
			if k, e := x.Check(c, 255); k != 0 || e != nil {
				t.Fatal(k, e)
			}
			if r := s.Serve(api.Message{Op: skeleton.Info, Cap: c}); !same(r, api.Message{Op: 1, Arg: 24}) {
				t.Fatal(r)
			}
		}
	}
}

// P27.1: of a table that has no draw left, nil, a zero capability and the error; nothing is made.
func TestOfWithoutDraws(t *testing.T) {
	spent := oracle.Of(tape.Of([]uint64{1}))
	spent.Draw()
	for k, o := range []*oracle.Oracle{nil, oracle.Of(nil), oracle.Of(tape.Of(nil)), spent} {
		x := objects.Of(9, o)
		for range 3 {
			s, c, e := Of(x)
			if s != nil || c != (api.Cap{}) || api.Number(e) != api.ErrTape || x.Len() != 0 {
				t.Fatal(k, s, c, e, x.Len())
			}
		}
	}
}

// P27.1: the error is the one of Create, also of a table that is full.
func TestOfFull(t *testing.T) {
	o := oracle.Of(tape.Of(draws(70)))
	x := objects.Of(9, o)
	for k := range 64 {
		x.Create(k)
	}
	if s, c, e := Of(x); s != nil || c != (api.Cap{}) || api.Number(e) != api.ErrFull || x.Len() != 64 || o.Left() != 6 {
		t.Fatal(s, c, e, x.Len(), o.Left())
	}
}

// P27.1: a server has no files at first, and room for all bytes; two servers have files of their own.
func TestOfTwo(t *testing.T) {
	a, b := over(t, 3, draws(9)...), over(t, 3, draws(9)...)
	a.room(t, all)
	one := a.make(t, "aaa")
	if c := b.make(t, "bb"); c != (api.Cap{Port: 3, Object: 1, Rights: 255, Check: 2000}) {
		t.Fatal(c)
	}
	b.room(t, all-2)
	a.look(t, "b")
	a.asks(t, skeleton.Destroy, one, 0, "", 0)
	b.text(t, b.d.owner(1), "bb")
	if v, ok := b.t.Value(1); v != 0 || !ok {
		t.Fatal(v, ok)
	}
}

// P27.2: Need of each operation there can be: Create of Make, Read of Read and Size, both of Edit; of any other 0 and false.
func TestNeed(t *testing.T) {
	want := map[uint16]uint8{100: api.Create, 101: api.Read, 102: api.Read, 103: api.Read + api.Create}
	for _, s := range []*Server{bare(4).s, bare(0).s, {}} {
		for op := range 1 << 16 {
			need, ok := s.Need(uint16(op))
			if w, there := want[uint16(op)]; need != w || ok != there {
				t.Fatalf("Need(%d): %d, %v; want %d, %v", op, need, ok, w, there)
			}
		}
	}
}

// P27.2: by capabilities of all rights there can be each operation is done, or ErrRights, as its need is; nothing is changed by one that is refused.
func TestRights(t *testing.T) {
	for op, need := range map[uint16]int{Make: 4, Read: 1, Size: 1, Edit: 5} {
		a := fill(t, 600, "0123456789")
		for rights := range 256 {
			k := 1
			if op == Make {
				k = 0
			}
			want := api.ErrRights
			if rights&need == need {
				want = 0
			}
			c := a.mask(t, a.d.owner(k), uint8(rights))
			m := request(op, c, uint64(rights%7), strings.Repeat("x", rights%5))
			// What is asked is looked at only behind the rights.
			if op == Read && rights%3 == 1 {
				m.Arg = 4097
				if want == 0 {
					want = api.ErrArgument
				}
			}
			if op == Edit && rights%3 == 1 {
				m.Arg = math.MaxUint64
				if want == 0 {
					want = api.ErrBounds
				}
			}
			r := a.serve(t, m)
			if r.Status != uint16(want) {
				t.Fatal(op, rights, r)
			}
			if r.Cap != (api.Cap{}) {
				a.asks(t, skeleton.Destroy, r.Cap, 0, "", 0)
			}
		}
	}
}

// P27.2: Edit needs both rights: by each of the two alone it is ErrRights, and nothing is changed; by both, and no others, it is done.
func TestRightsOfEdit(t *testing.T) {
	a := fill(t, 20, "abc")
	own := a.d.owner(1)
	for _, rights := range []uint8{0, api.Read, api.Create, api.Write, api.Delete, 254, 251, 250} {
		for _, at := range []uint64{0, 3, 4, math.MaxUint64} {
			a.asks(t, Edit, a.mask(t, own, rights), at, "XY", api.ErrRights)
		}
	}
	a.room(t, all-3)
	both := a.mask(t, own, 5)
	if c := a.edit(t, both, 1, "XY"); c.Rights != 255 || c.Object != 2 {
		t.Fatal(c)
	}
	a.asks(t, Make, both, 0, "x", api.ErrCommand)
}

// P27.2: capabilities that are not good: each operation is ErrCapability, and nothing is changed, nor drawn for such as no object has.
func TestCapabilities(t *testing.T) {
	a := fill(t, 40, "one", "two and more")
	own := a.d.owner(1)
	see := a.mask(t, own, 5)
	bad := []api.Cap{{}, {Port: 3}}
	for _, turn := range []func(c *api.Cap){
		func(c *api.Cap) { c.Port = 4 },
		func(c *api.Cap) { c.Port = 0 },
		func(c *api.Cap) { c.Port |= 1 << 48 },
		func(c *api.Cap) { c.Port |= 1 << 63 },
		func(c *api.Cap) { c.Object = 3 },
		func(c *api.Cap) { c.Object = 2 },
		func(c *api.Cap) { c.Object = 0 },
		func(c *api.Cap) { c.Object = 64 },
		func(c *api.Cap) { c.Object = 1<<24 - 1 },
		func(c *api.Cap) { c.Object = 1<<24 + 1 },
		func(c *api.Cap) { c.Object = math.MaxUint32 },
		func(c *api.Cap) { c.Check++ },
		func(c *api.Cap) { c.Check ^= 1 << 47 },
		func(c *api.Cap) { c.Check ^= 1 << 48 },
		func(c *api.Cap) { c.Check ^= 1 << 63 },
		func(c *api.Cap) { c.Rights ^= 2 },
		func(c *api.Cap) { c.Rights ^= 128 },
	} {
		for _, c := range []api.Cap{own, see} {
			turn(&c)
			bad = append(bad, c)
		}
	}
	for _, c := range bad {
		for op := Make; op <= Edit; op++ {
			for _, arg := range []uint64{0, 1, 100, math.MaxUint64} {
				a.asks(t, op, c, arg, "data", api.ErrCapability)
			}
		}
	}
	newer := a.asks(t, skeleton.Revoke, own, 0, "", 0).Cap
	for op := Make; op <= Edit; op++ {
		a.asks(t, op, own, 0, "data", api.ErrCapability)
		a.asks(t, op, see, 0, "data", api.ErrCapability)
	}
	a.text(t, newer, "one")
}

// P27.2: a restricted capability is asked about by a draw; where there is none, that is told, and nothing is done.
func TestCapabilityWithoutDraws(t *testing.T) {
	a := fill(t, 0, "file")
	for op := Make; op <= Edit; op++ {
		for _, arg := range []uint64{0, 5, math.MaxUint64} {
			a.asks(t, op, api.Cap{Port: 3, Object: 1, Rights: 254, Check: 9}, arg, "data", api.ErrTape)
		}
	}
}

// P27.2: operations that there are not are ErrCommand, whatever the rights are; those that each server has are there.
func TestOtherOperations(t *testing.T) {
	a := fill(t, 40, "file")
	few := a.mask(t, a.d.owner(1), 0)
	for _, op := range ops {
		if op >= Make && op <= Edit || op >= skeleton.Info && op <= skeleton.Destroy {
			continue
		}
		for _, c := range []api.Cap{a.d.owner(0), a.d.owner(1), few, {Port: 3, Object: 9}} {
			a.asks(t, op, c, 1, "data", api.ErrCommand)
		}
	}
	a.asks(t, skeleton.Info, few, 0, "", 0)
	a.asks(t, skeleton.Touch, few, 0, "", 0)
	a.asks(t, skeleton.Destroy, a.d.owner(0), 0, "", api.ErrState)
}

// P27.2: Make of anything but the root is ErrCommand, and so is every other operation of the root, ahead of what is wrong with numbers and with room.
func TestCommand(t *testing.T) {
	a := fill(t, 3, "file", "")
	for _, arg := range numbers {
		for _, data := range []string{"", "data", plenty} {
			a.asks(t, Make, a.d.owner(1), arg, data, api.ErrCommand)
			a.asks(t, Make, a.d.owner(2), arg, data, api.ErrCommand)
			for op := Read; op <= Edit; op++ {
				a.asks(t, op, a.d.owner(0), arg, data, api.ErrCommand)
			}
		}
	}
	a.room(t, all-4)
}

// P27.2: Do by itself, of each value and operation: what there is not is ErrCommand; a value that no file has is that of one without bytes.
func TestDoValues(t *testing.T) {
	for _, op := range append([]uint16{Make, Read, Size, Edit}, ops...) {
		for _, value := range values {
			a := bare(40)
			a.do(t, Make, Root, api.Message{Data: []byte("first")})
			a.do(t, Make, Root, api.Message{Data: []byte("second one")})
			for _, arg := range numbers {
				r, fault := a.do(t, op, value, api.Message{Arg: arg, Data: []byte("x"), Cap: api.Cap{Port: 1}, Op: 77})
				if (op == Make) != (value == Root) && fault != api.ErrCommand {
					t.Fatal(op, value, arg, r, fault)
				}
			}
		}
	}
}

// P27.2: Do tells the operation by op, not by what the message has, and looks at none but Arg and Data of it.
func TestDoOp(t *testing.T) {
	a := bare(9)
	full := func(op uint16, arg uint64, data string) api.Message {
		return api.Message{To: math.MaxUint64, Reply: 1 << 50, ID: 8, Op: op, Status: 99, Cap: api.Cap{Port: math.MaxUint64}, Arg: arg, Data: []byte(data)}
	}
	for _, arg := range numbers[:4] {
		if r, fault := a.do(t, Make, Root, full(Size, arg, "some text")); r.Cap.Check == 0 || fault != 0 {
			t.Fatal(r, fault)
		}
	}
	if r, fault := a.do(t, Edit, 0, full(Make, 4, "-TEXT")); r.Cap.Object != 4 || fault != 0 {
		t.Fatal(r, fault)
	}
	if r, fault := a.do(t, Read, 4, full(Edit, 3<<32+5, "more")); string(r.Data) != "e-TEX" || fault != 0 {
		t.Fatal(r, fault)
	}
	if r, fault := a.do(t, Size, 0, full(Read, math.MaxUint64, "more")); r.Arg != 9 || fault != 0 {
		t.Fatal(r, fault)
	}
}

// P27.2, P27.3: Make is a file of the data, whatever Arg is, of none to all bytes there may be; of one more ErrMemory, and nothing is drawn.
func TestMake(t *testing.T) {
	for k, n := range []int{0, 1, 2, 63, 64, 65, 255, 256, 4095, 4096, 4097, 32768, 65535, 65536, 65537, 65538, 70000} {
		a := over(t, 3, draws(4)...)
		text := plenty[:n]
		r := a.serve(t, request(Make, a.d.owner(0), numbers[k], text))
		if n > all {
			if r.Status != uint16(api.ErrMemory) || r.Cap != (api.Cap{}) || a.o.Left() != 3 || a.t.Len() != 1 {
				t.Fatal(n, r)
			}
			continue
		}
		if r.Status != 0 || r.Cap != (api.Cap{Port: 3, Object: 1, Rights: 255, Check: 2000}) || r.Arg != 0 || len(r.Data) != 0 {
			t.Fatal(n, r)
		}
		a.text(t, r.Cap, text)
		a.room(t, all-n)
	}
}

// P27.2: of nil data, and of empty ones, there is a file of no byte.
func TestMakeNothing(t *testing.T) {
	a := over(t, 3, draws(9)...)
	for k, b := range [][]byte{nil, {}, []byte("abc")[:0]} {
		m := request(Make, a.d.owner(0), 7, "")
		m.Data = b
		r := a.serve(t, m)
		if r.Status != 0 || r.Cap.Object != uint32(k+1) {
			t.Fatal(r)
		}
		a.text(t, r.Cap, "")
		if v, ok := a.t.Value(k + 1); v != k || !ok {
			t.Fatal(v, ok)
		}
	}
	a.room(t, all)
}

// P27.2: all files together have no more than 65536 bytes; of no byte there may be some when there is no more room.
func TestMakeMemory(t *testing.T) {
	a := fill(t, 40, letters(30000), "", letters(30000))
	root := a.d.owner(0)
	a.asks(t, Make, root, 0, plenty[:5537], api.ErrMemory)
	last := a.make(t, plenty[:5536])
	for _, n := range []int{1, 2, 5536, 65535, 65536, 65537, 70000} {
		a.asks(t, Make, root, 0, plenty[:n], api.ErrMemory)
	}
	none := a.make(t, "")
	a.asks(t, skeleton.Destroy, none, 0, "", 0)
	a.asks(t, Make, root, 0, "x", api.ErrMemory)
	a.asks(t, skeleton.Destroy, last, 0, "", 0)
	a.asks(t, skeleton.Destroy, a.d.owner(2), 0, "", 0)
	a.room(t, 5536)
	one := a.make(t, "x")
	a.room(t, 5535)
	a.asks(t, skeleton.Destroy, a.d.owner(1), 0, "", 0)
	a.room(t, 35535)
	a.text(t, one, "x")
	a.text(t, a.d.owner(3), letters(30000))
}

// P27.2: a full table is ErrFull, behind ErrMemory; the number that was not taken is the next one.
func TestMakeFull(t *testing.T) {
	a := over(t, 3, draws(80)...)
	root := a.d.owner(0)
	for k := range 63 {
		a.make(t, plenty[k:k+1000])
	}
	const left = all - 63*1000
	for range 5 {
		a.asks(t, Make, root, 0, "", api.ErrFull)
		a.asks(t, Make, root, 0, plenty[:left], api.ErrFull)
		a.asks(t, Make, root, 0, plenty[:left+1], api.ErrMemory)
		a.asks(t, Edit, a.d.owner(5), 1000, "", api.ErrFull)
		a.asks(t, Edit, a.d.owner(5), 1000, plenty[:left-1000], api.ErrFull)
		a.asks(t, Edit, a.d.owner(5), 1000, plenty[:left-999], api.ErrMemory)
		a.asks(t, Edit, a.d.owner(5), 1001, plenty[:left-999], api.ErrBounds)
	}
	if a.o.Left() != 16 {
		t.Fatal(a.o.Left())
	}
	a.asks(t, skeleton.Destroy, a.d.owner(17), 0, "", 0)
	if c := a.make(t, plenty[:left+1000]); c.Object != 17 {
		t.Fatal(c)
	}
	if v, ok := a.t.Value(17); v != 63 || !ok {
		t.Fatal(v, ok)
	}
	a.asks(t, Make, root, 0, "", api.ErrFull)
	a.asks(t, Make, root, 0, "x", api.ErrMemory)
}

// P27.2: a tape at its end is ErrTape, behind ErrMemory; what could not be made has no bytes.
func TestMakeTape(t *testing.T) {
	a := fill(t, 0, "file", "")
	root := a.d.owner(0)
	for range 5 {
		a.asks(t, Make, root, 0, "", api.ErrTape)
		a.asks(t, Make, root, 0, plenty[:all-4], api.ErrTape)
		a.asks(t, Make, root, 0, plenty[:all-3], api.ErrMemory)
		a.asks(t, Edit, a.d.owner(1), 2, "more", api.ErrTape)
		a.asks(t, Edit, a.d.owner(1), 2, plenty[:all-6], api.ErrTape)
		a.asks(t, Edit, a.d.owner(1), 2, plenty[:all-5], api.ErrMemory)
		a.asks(t, Edit, a.d.owner(1), 5, plenty, api.ErrBounds)
		a.asks(t, Edit, a.d.owner(2), 0, "", api.ErrTape)
		a.asks(t, Edit, a.d.owner(2), 1, "", api.ErrBounds)
	}
	a.text(t, a.d.owner(1), "file")
}

// number holds for which file the object of a capability stands.
func (a pair) number(t *testing.T, c api.Cap, want int) {
	t.Helper()
	if v, ok := a.t.Value(int(c.Object)); v != want || !ok {
		t.Fatalf("%v stands for %d, %v; want %d", c, v, ok, want)
	}
}

// P27.2: the numbers of files are 0, 1, and so on, of Make as of Edit; none is given twice, and one that could not be made takes none.
func TestNumbers(t *testing.T) {
	a := over(t, 3, draws(300)...)
	first := a.make(t, "first")
	a.number(t, first, 0)
	second := a.edit(t, first, 0, "F")
	a.number(t, second, 1)
	a.asks(t, Make, a.d.owner(0), 0, plenty, api.ErrMemory)
	a.asks(t, Edit, first, 6, "", api.ErrBounds)
	a.asks(t, Edit, first, 5, plenty[:all], api.ErrMemory)
	a.asks(t, Make, first, 0, "", api.ErrCommand)
	a.asks(t, Edit, a.d.owner(0), 0, "", api.ErrCommand)
	a.number(t, a.make(t, ""), 2)
	a.asks(t, skeleton.Destroy, second, 0, "", 0)
	third := a.make(t, "third")
	a.number(t, third, 3)
	if third.Object != second.Object {
		t.Fatal(third)
	}
	a.asks(t, skeleton.Destroy, third, 0, "", 0)
	for k := range 61 {
		a.number(t, a.make(t, "x"), 4+k)
	}
	for range 9 {
		a.asks(t, Make, a.d.owner(0), 0, "x", api.ErrFull)
		a.asks(t, Edit, first, 0, "x", api.ErrFull)
	}
	a.asks(t, skeleton.Destroy, first, 0, "", 0)
	a.number(t, a.make(t, "y"), 65)
	for range 24 {
		a.age(t)
	}
	a.number(t, a.make(t, "z"), 66)
}

// P27.2: a number that was not taken, since there was no draw, is taken when there is one; the service is asked by itself, with another table.
func TestNumbersWithoutDraws(t *testing.T) {
	a := bare(2)
	a.do(t, Make, Root, api.Message{Data: []byte("one")})
	a.do(t, Make, Root, api.Message{Data: []byte("two")})
	for range 7 {
		if r, fault := a.do(t, Make, Root, api.Message{Data: []byte("three")}); fault != api.ErrTape {
			t.Fatal(r, fault)
		}
		if r, fault := a.do(t, Edit, 0, api.Message{Data: []byte("three")}); fault != api.ErrTape {
			t.Fatal(r, fault)
		}
	}
	list := []uint64{77, 78}
	a.o = oracle.Of(tape.Of(list))
	a.t = objects.Of(3, a.o)
	a.s.objects, a.x = a.t, skeleton.Of(a.t, a.s)
	a.d.list, a.d.facts = list, map[int]fact{}
	if r, fault := a.do(t, Make, Root, api.Message{Data: []byte("four")}); fault != 0 {
		t.Fatal(r, fault)
	}
	if v, ok := a.t.Value(0); v != 2 || !ok {
		t.Fatal(v, ok)
	}
	if r, fault := a.do(t, Read, 2, api.Message{Arg: 4}); string(r.Data) != "four" || fault != 0 {
		t.Fatal(r, fault)
	}
}

// P27.3: Read: from where is Arg / 2^32, how many Arg's last 32 bits, at most MaxData, up to the file's end.
func TestRead(t *testing.T) {
	texts := []string{letters(200), letters(5000), ""}
	a := fill(t, 0, texts...)
	for _, x := range []struct {
		k, at, many int
		want        api.Errno
	}{
		{1, 0, 0, 0}, {1, 0, 1, 0}, {1, 0, 64, 0}, {1, 1, 1, 0}, {1, 100, 50, 0},
		{1, 0, 199, 0}, {1, 0, 200, 0}, {1, 0, 201, api.ErrBounds}, {1, 1, 199, 0}, {1, 1, 200, api.ErrBounds},
		{1, 199, 0, 0}, {1, 199, 1, 0}, {1, 199, 2, api.ErrBounds}, {1, 200, 0, 0}, {1, 200, 1, api.ErrBounds}, {1, 201, 0, api.ErrBounds}, {1, 201, 1, api.ErrBounds},
		{1, 0, 4096, api.ErrBounds}, {1, 0, 4097, api.ErrArgument}, {1, 200, 4096, api.ErrBounds}, {1, 201, 4097, api.ErrArgument},
		{2, 0, 4095, 0}, {2, 0, 4096, 0}, {2, 0, 4097, api.ErrArgument}, {2, 1, 4096, 0}, {2, 904, 4096, 0}, {2, 905, 4096, api.ErrBounds}, {2, 905, 4095, 0},
		{2, 904, 4097, api.ErrArgument}, {2, 4999, 1, 0}, {2, 5000, 0, 0}, {2, 5001, 0, api.ErrBounds},
		{3, 0, 0, 0}, {3, 0, 1, api.ErrBounds}, {3, 1, 0, api.ErrBounds}, {3, 0, 4096, api.ErrBounds}, {3, 0, 4097, api.ErrArgument},
		{1, 65536, 0, api.ErrBounds}, {1, 1<<31 - 1, 0, api.ErrBounds}, {1, 1 << 31, 0, api.ErrBounds}, {1, 1 << 31, 4096, api.ErrBounds},
		{1, 1<<32 - 1, 0, api.ErrBounds}, {1, 1<<32 - 1, 1, api.ErrBounds}, {1, 1<<32 - 1, 2, api.ErrBounds}, {1, 1<<32 - 1, 4096, api.ErrBounds}, {1, 1<<32 - 4096, 4096, api.ErrBounds},
		{1, 0, 1 << 31, api.ErrArgument}, {1, 0, 1<<32 - 1, api.ErrArgument}, {1, 0, 1<<16 + 1, api.ErrArgument}, {1, 1<<32 - 1, 1<<32 - 1, api.ErrArgument}, {1, 1<<32 - 1, 4097, api.ErrArgument}, {2, 1 << 31, 1 << 31, api.ErrArgument},
	} {
		r := a.asks(t, Read, a.d.owner(x.k), uint64(x.at)<<32|uint64(x.many), "data", x.want)
		want := ""
		if x.want == 0 {
			want = texts[x.k-1][x.at : x.at+x.many]
		}
		if string(r.Data) != want || r.Arg != 0 || r.Cap != (api.Cap{}) {
			t.Fatal(x, r)
		}
	}
}

// P27.3: Read of each place and number of short files.
func TestReadShort(t *testing.T) {
	for n := range 6 {
		text := "abcdef"[:n]
		a := fill(t, 0, text)
		for at := range n + 3 {
			for many := range n + 3 {
				want := api.ErrBounds
				if at+many <= n {
					want = 0
				}
				r := a.asks(t, Read, a.d.owner(1), uint64(at)<<32+uint64(many), "", want)
				if want == 0 && string(r.Data) != text[at:at+many] {
					t.Fatal(text, at, many, r)
				}
			}
		}
	}
}

// P27.3: Size does not look at Arg or data, and answers nothing but Arg.
func TestSize(t *testing.T) {
	for _, n := range []int{0, 1, 63, 255, 256, 4096, 4097, 65535, 65536} {
		a := fill(t, 0, plenty[:n])
		for _, arg := range numbers {
			if r := a.asks(t, Size, a.d.owner(1), arg, "data", 0); r.Arg != uint64(n) || len(r.Data) != 0 || r.Cap != (api.Cap{}) {
				t.Fatal(n, arg, r)
			}
		}
	}
}

// P27.3: Edit of each place and data's length of short files: the bytes up to the place, the data, and what stands behind as many; the file itself stays.
func TestEditShort(t *testing.T) {
	for n := range 6 {
		text := "abcdef"[:n]
		for at := range n + 3 {
			for many := range n + 4 {
				a := fill(t, 1, text)
				data := "UVWXYZUVWXYZ"[:many]
				if at > n {
					a.asks(t, Edit, a.d.owner(1), uint64(at), data, api.ErrBounds)
					continue
				}
				r := a.asks(t, Edit, a.d.owner(1), uint64(at), data, 0)
				if r.Cap != (api.Cap{Port: 3, Object: 2, Rights: 255, Check: 3000}) || r.Arg != 0 || len(r.Data) != 0 {
					t.Fatal(r)
				}
				a.text(t, a.d.owner(1), text)
				want := text[:at] + data
				if len(want) < n {
					want += text[len(want):]
				}
				a.text(t, r.Cap, want)
			}
		}
	}
}

// P27.3: Edit by hand: at the beginning, within, and at the end, by data that is shorter than what stands behind the place, as long, and longer.
func TestEdit(t *testing.T) {
	a := fill(t, 30, "hello")
	one := a.d.owner(1)
	for _, x := range []struct {
		at         uint64
		data, want string
	}{
		{0, "", "hello"}, {0, "J", "Jello"}, {0, "JELLO", "JELLO"}, {0, "Jellies", "Jellies"},
		{1, "", "hello"}, {1, "u", "hullo"}, {1, "ALSO", "hALSO"}, {1, "ALSOs", "hALSOs"}, {2, "XY", "heXYo"},
		{4, "", "hello"}, {4, "X", "hellX"}, {4, "XYZ", "hellXYZ"}, {5, "", "hello"}, {5, " you", "hello you"},
	} {
		c := a.edit(t, one, x.at, x.data)
		a.text(t, c, x.want)
		a.text(t, one, "hello")
		if r := a.asks(t, Read, c, uint64(len(x.want)), "", 0); string(r.Data) != x.want {
			t.Fatal(x, r)
		}
	}
	for _, at := range []uint64{6, 7, 1 << 16, 1<<31 - 1, 1 << 31, 1<<32 - 1, 1 << 32, 1<<32 + 1, 1<<32 + 5, 1 << 63, 1<<63 + 1, 1<<63 + 5, math.MaxUint64 - 5, math.MaxUint64 - 1, math.MaxUint64} {
		for _, data := range []string{"", "x", "hello", plenty} {
			if r := a.asks(t, Edit, one, at, data, api.ErrBounds); r.Cap != (api.Cap{}) {
				t.Fatal(at, r)
			}
		}
	}
}

// P27.3: Edit of a file of no byte, and of the greatest one there may be.
func TestEditEnds(t *testing.T) {
	a := fill(t, 9, "")
	a.text(t, a.edit(t, a.d.owner(1), 0, ""), "")
	a.text(t, a.edit(t, a.d.owner(1), 0, "abc"), "abc")
	a.asks(t, Edit, a.d.owner(1), 1, "", api.ErrBounds)
	a.room(t, all-3)
	a = fill(t, 9, plenty[:all])
	for _, at := range []uint64{0, 1, 65535, 65536} {
		for _, data := range []string{"", "x", plenty} {
			a.asks(t, Edit, a.d.owner(1), at, data, api.ErrMemory)
		}
	}
	a.asks(t, Edit, a.d.owner(1), 65537, "", api.ErrBounds)
	a.text(t, a.d.owner(1), plenty[:all])
}

// P27.2, P27.3: a file that Edit makes has all of its bytes, those that it shares with the one it was made of as well: there is room for them, or ErrMemory.
func TestEditMemory(t *testing.T) {
	a := fill(t, 40, letters(20000), "ab")
	big, small := a.d.owner(1), a.d.owner(2)
	two := a.edit(t, big, 10000, "X")
	a.room(t, 25534)
	three := a.edit(t, big, 20000, "XYZ")
	a.room(t, 5531)
	for at := range uint64(3) {
		a.asks(t, Edit, small, at, plenty[:5532-at], api.ErrMemory)
		c := a.edit(t, small, at, plenty[:5531-at])
		a.asks(t, Make, a.d.owner(0), 0, "x", api.ErrMemory)
		a.asks(t, Edit, small, 0, "x", api.ErrMemory)
		a.asks(t, skeleton.Destroy, c, 0, "", 0)
	}
	a.asks(t, Edit, two, 0, "", api.ErrMemory)
	a.asks(t, skeleton.Destroy, big, 0, "", 0)
	a.room(t, 25531)
	a.text(t, two, letters(10000)+"X"+letters(20000)[10001:])
	a.text(t, three, letters(20000)+"XYZ")
	a.edit(t, two, 0, "")
	a.room(t, 5531)
}

// P27.3: files that are made of edited ones; each one stays as it was, whatever is made of it, and whichever of them is gone.
func TestEditChain(t *testing.T) {
	a := fill(t, 60, "file")
	want := "file"
	files := map[api.Cap]string{a.d.owner(1): want}
	c := a.d.owner(1)
	for k := range 20 {
		at := k * 7 % (len(want) + 1)
		data := plenty[k : k+k%4]
		c = a.edit(t, c, uint64(at), data)
		want = want[:at] + data + want[min(at+len(data), len(want)):]
		files[c] = want
		for x, text := range files {
			a.text(t, x, text)
		}
	}
	for k := 1; k <= 21; k += 2 {
		x := a.d.owner(k)
		a.asks(t, skeleton.Destroy, x, 0, "", 0)
		delete(files, x)
		for x, text := range files {
			a.text(t, x, text)
		}
	}
}

// P27.3: what Make and Edit told are owners' capabilities: of any of them one may read, size, edit, restrict, revoke and destroy.
func TestOwners(t *testing.T) {
	a := over(t, 3, draws(40)...)
	one := a.make(t, "one")
	for _, c := range []api.Cap{one, a.edit(t, one, 3, " more")} {
		see, both := a.mask(t, c, 1), a.mask(t, c, 5)
		text := a.d.texts[a.d.facts[int(c.Object)].value]
		a.text(t, see, text)
		a.text(t, both, text)
		a.asks(t, Edit, see, 0, "T", api.ErrRights)
		a.text(t, a.edit(t, both, 0, "T"), "T"+text[1:])
		a.asks(t, Read, a.mask(t, both, 4), 1, "", api.ErrRights)
		a.asks(t, Size, a.mask(t, both, 4), 0, "", api.ErrRights)
		newer := a.asks(t, skeleton.Revoke, c, 0, "", 0).Cap
		a.asks(t, Size, both, 0, "", api.ErrCapability)
		a.text(t, newer, text)
		a.asks(t, skeleton.Destroy, newer, 0, "", 0)
		a.asks(t, Size, newer, 0, "", api.ErrCapability)
	}
	maker := a.mask(t, a.d.owner(0), 4)
	a.text(t, a.asks(t, Make, maker, 0, "made", 0).Cap, "made")
	a.asks(t, Make, a.mask(t, a.d.owner(0), 251), 0, "made", api.ErrRights)
}

// P27.3: Destroy lets the file go: its bytes do not count, and nothing opens it any more.
func TestDestroy(t *testing.T) {
	a := fill(t, 40, letters(60000))
	own := a.d.owner(1)
	see := a.mask(t, own, 5)
	a.room(t, 5536)
	a.asks(t, skeleton.Destroy, see, 0, "", api.ErrRights)
	a.room(t, 5536)
	a.asks(t, skeleton.Destroy, a.mask(t, own, 8), 0, "", 0)
	for op := Read; op <= Edit; op++ {
		a.asks(t, op, own, 0, "", api.ErrCapability)
		a.asks(t, op, see, 0, "", api.ErrCapability)
	}
	a.room(t, all)
	c := a.make(t, "")
	if c.Object != 1 {
		t.Fatal(c)
	}
	a.text(t, c, "")
	a.asks(t, Read, own, 0, "", api.ErrCapability)
	a.asks(t, Read, see, 0, "", api.ErrCapability)
}

// P27.3: what nobody touches ends by Age, and with it its file; what was touched is there still; the root stays.
func TestAge(t *testing.T) {
	a := fill(t, 40, letters(10), letters(20), letters(30), letters(40))
	see := a.mask(t, a.d.owner(2), 1)
	for range 20 {
		if a.age(t) != 0 {
			t.Fatal("one ended")
		}
	}
	a.asks(t, skeleton.Touch, see, 0, "", 0)
	a.asks(t, skeleton.Destroy, a.d.owner(3), 0, "", 0)
	for range 3 {
		a.age(t)
	}
	a.room(t, all-70)
	if n := a.age(t); n != 2 {
		t.Fatal(n)
	}
	a.room(t, all-20)
	a.text(t, see, letters(20))
	for range 20 {
		a.age(t)
	}
	a.room(t, all)
	for range 60 {
		a.age(t)
	}
	a.text(t, a.make(t, plenty[:all]), plenty[:all])
}

// P27.3: no operation of the server's own has an object live on.
func TestNotTouched(t *testing.T) {
	a := fill(t, 40, "file")
	for range 23 {
		a.age(t)
		a.text(t, a.d.owner(1), "file")
		c := a.edit(t, a.d.owner(1), 1, "X")
		a.asks(t, skeleton.Destroy, c, 0, "", 0)
	}
	if n := a.age(t); n != 1 {
		t.Fatal(n)
	}
	a.room(t, all)
}

// P27.3: Gone by itself lets the file of a value go, leaves those of others, and changes nothing of a value that no file has.
func TestGone(t *testing.T) {
	texts := []string{"first", "second", "", "fourth one"}
	for _, value := range values {
		a := bare(9)
		for _, text := range texts {
			a.do(t, Make, Root, api.Message{Data: []byte(text)})
		}
		for range 3 {
			a.s.Gone(value)
			delete(a.d.texts, value)
			a.look(t, "Gone")
		}
		for k, text := range texts {
			if k == value {
				text = ""
			}
			r, fault := a.do(t, Read, k, api.Message{Arg: uint64(len(text))})
			if string(r.Data) != text || fault != 0 {
				t.Fatal(value, k, r, fault)
			}
		}
		a.do(t, Size, value, api.Message{})
		left := all - 21
		if value >= 0 && value < 4 {
			left += len(texts[value])
		}
		if r, fault := a.do(t, Make, Root, api.Message{Data: []byte(plenty[:left+1])}); fault != api.ErrMemory {
			t.Fatal(value, r, fault)
		}
		if r, fault := a.do(t, Make, Root, api.Message{Data: []byte(plenty[:left])}); fault != 0 {
			t.Fatal(value, r, fault)
		}
		if v, ok := a.t.Value(4); v != 4 || !ok {
			t.Fatal(value, v, ok)
		}
	}
}

// P27.3: Gone of a number that is still to come changes nothing: the file gets it, and its bytes.
func TestGoneAhead(t *testing.T) {
	a := bare(9)
	for k := range 3 {
		a.s.Gone(k)
	}
	for k := range 3 {
		a.do(t, Make, Root, api.Message{Data: []byte("text")})
		if v, ok := a.t.Value(k); v != k || !ok {
			t.Fatal(k, v, ok)
		}
		a.s.Gone(k + 1)
		a.look(t, "Gone")
	}
	if r, fault := a.do(t, Make, Root, api.Message{Data: []byte(plenty[:all-11])}); fault != api.ErrMemory {
		t.Fatal(r, fault)
	}
}

// Numbers of files and of objects are not the same, nor a fixed way apart: objects that others made in the table stand for what they were said to.
func TestForeign(t *testing.T) {
	a := over(t, 3, draws(60)...)
	none := a.foreign(t, 5)
	a.make(t, "first")
	high := a.foreign(t, math.MaxInt)
	a.make(t, "second")
	for _, c := range []api.Cap{none, high, a.foreign(t, math.MinInt)} {
		a.text(t, c, "")
		a.asks(t, Read, c, 1, "", api.ErrBounds)
		a.asks(t, Read, c, 4097, "", api.ErrArgument)
		a.asks(t, Edit, c, 1, "x", api.ErrBounds)
		a.asks(t, Make, c, 1, "x", api.ErrCommand)
		made := a.edit(t, c, 0, "of none")
		a.text(t, made, "of none")
		a.asks(t, skeleton.Destroy, made, 0, "", 0)
	}
	second := a.foreign(t, Root)
	a.asks(t, Make, second, 0, "third", 0)
	a.text(t, none, "third")
	a.asks(t, Size, second, 0, "", api.ErrCommand)
	twin := a.foreign(t, 1)
	a.text(t, twin, "second")
	a.asks(t, skeleton.Destroy, twin, 0, "", 0)
	a.text(t, a.d.owner(4), "")
	a.room(t, all-10)
	a.asks(t, skeleton.Destroy, a.d.owner(4), 0, "", 0)
	a.asks(t, skeleton.Destroy, second, 0, "", 0)
	a.asks(t, skeleton.Destroy, high, 0, "", 0)
	if c := a.make(t, "last"); c.Object != 3 {
		t.Fatal(c)
	}
	a.number(t, a.d.owner(3), 7)
}

// P27.3: an object that is destroyed behind the server's back has its file still: its bytes count.
func TestDestroyedElsewhere(t *testing.T) {
	a := fill(t, 9, "file", "other")
	if _, _, e := a.t.Destroy(a.d.owner(1)); e != nil {
		t.Fatal(e)
	}
	delete(a.d.facts, 1)
	a.look(t, "Destroy")
	a.room(t, all-9)
	a.number(t, a.make(t, "more"), 3)
}

// W4: where several things are wrong, the one that is named first is told.
func TestOrder(t *testing.T) {
	a := fill(t, 3, "file")
	see, maker, few := a.mask(t, a.d.owner(1), 1), a.mask(t, a.d.owner(1), 4), a.mask(t, a.d.owner(0), 1)
	odd := see
	odd.Check++
	far := see
	far.Port |= 1 << 48
	for _, x := range []struct {
		op   uint16
		c    api.Cap
		arg  uint64
		data string
		want api.Errno
	}{
		{rest, far, math.MaxUint64, plenty, api.ErrCapability},
		{rest, odd, math.MaxUint64, plenty, api.ErrCommand},
		{Edit, odd, math.MaxUint64, plenty, api.ErrCapability},
		{Edit, see, math.MaxUint64, plenty, api.ErrRights},
		{Edit, maker, math.MaxUint64, plenty, api.ErrRights},
		{Edit, few, math.MaxUint64, plenty, api.ErrRights},
		{Edit, a.d.owner(0), math.MaxUint64, plenty, api.ErrCommand},
		{Edit, a.d.owner(1), math.MaxUint64, plenty, api.ErrBounds},
		{Edit, a.d.owner(1), 5, plenty, api.ErrBounds},
		{Edit, a.d.owner(1), 4, plenty, api.ErrMemory},
		{Edit, a.d.owner(1), 4, "x", api.ErrTape},
		{Make, odd, math.MaxUint64, plenty, api.ErrCapability},
		{Make, see, math.MaxUint64, plenty, api.ErrRights},
		{Make, few, math.MaxUint64, plenty, api.ErrRights},
		{Make, maker, math.MaxUint64, plenty, api.ErrCommand},
		{Make, a.d.owner(0), math.MaxUint64, plenty, api.ErrMemory},
		{Make, a.d.owner(0), math.MaxUint64, "x", api.ErrTape},
		{Read, maker, math.MaxUint64, "", api.ErrRights},
		{Read, few, math.MaxUint64, "", api.ErrCommand},
		{Read, see, 1<<63 + 4097, "", api.ErrArgument},
		{Read, see, 5<<32 + 4097, "", api.ErrArgument},
		{Read, see, 5<<32 + 4096, "", api.ErrBounds},
		{Size, few, math.MaxUint64, "", api.ErrCommand},
	} {
		a.asks(t, x.op, x.c, x.arg, x.data, x.want)
	}
}

// W6: what is made is a copy, what is read is new memory, also where there is room behind the data's length, or behind what was answered.
func TestMemory(t *testing.T) {
	s := bare(9).s
	whole := []byte("abcdefgh")
	if r, e := s.Do(Make, Root, api.Message{Data: whole[:4]}); e != nil || len(r.Data) != 0 || string(whole) != "abcdefgh" {
		t.Fatal(r, e, string(whole))
	}
	if r, e := s.Do(Edit, 0, api.Message{Arg: 3, Data: whole[4:6]}); e != nil || len(r.Data) != 0 || string(whole) != "abcdefgh" {
		t.Fatal(r, e, string(whole))
	}
	if r, e := s.Do(Edit, 0, api.Message{Data: whole[:4]}); e != nil || len(r.Data) != 0 || string(whole) != "abcdefgh" {
		t.Fatal(r, e, string(whole))
	}
	s.Do(Edit, 1, api.Message{Arg: 5})
	copy(whole, "zzzzzzzz")
	for value, want := range []string{"abcd", "abcef", "abcd", "abcef"} {
		many := uint64(len(want))
		one, _ := s.Do(Read, value, api.Message{Arg: many})
		two, _ := s.Do(Read, value, api.Message{Arg: many})
		if string(one.Data) != want || string(two.Data) != want {
			t.Fatal(value, string(one.Data), string(two.Data))
		}
		copy(one.Data, "yyyyy")
		_ = append(one.Data[:2], "xxxxxx"...)
		short, _ := s.Do(Read, value, api.Message{Arg: 2})
		_ = append(short.Data, "wwwwww"...)
		three, _ := s.Do(Read, value, api.Message{Arg: many})
		if string(two.Data) != want || string(three.Data) != want {
			t.Fatal(value, string(two.Data), string(three.Data))
		}
	}
}

// W1: a zero Server, which Of did not make, has no objects, so that none can be made in it, and does not panic.
func TestZero(t *testing.T) {
	s := &Server{}
	for _, op := range ops {
		for _, value := range values {
			for _, arg := range numbers {
				r, e := s.Do(op, value, api.Message{Arg: arg, Data: []byte("ab")})
				if r.Cap != (api.Cap{}) || r.Arg != 0 || len(r.Data) != 0 {
					t.Fatal(op, value, arg, r, e)
				}
				if (op == Make && value == Root || op == Edit && value != Root && arg == 0) && api.Number(e) != api.ErrTape {
					t.Fatal(op, value, arg, e)
				}
			}
			s.Gone(value)
		}
	}
}

// wide is a number of any bits, of which often few stand.
func wide(draw func(n int) int) uint64 {
	n := uint64(draw(1<<31))<<40 ^ uint64(draw(1<<31))<<20 ^ uint64(draw(1<<31))
	return n >> draw(64)
}

// W1: any number, value, operation and data whatever: nothing panics, and beside an error there is nothing.
func TestAny(t *testing.T) {
	a := bare(60)
	a.do(t, Make, Root, api.Message{Data: []byte(letters(300))})
	draw := strew(99)
	for range 4000 {
		m := api.Message{To: wide(draw), Reply: wide(draw), Op: uint16(wide(draw)), Cap: api.Cap{Port: wide(draw), Check: wide(draw)}, Arg: wide(draw), Data: make([]byte, draw(3)*draw(200))}
		op := Make + uint16(draw(5))
		if draw(9) == 0 {
			op = uint16(wide(draw))
		}
		value := values[draw(len(values))]
		if draw(2) == 0 {
			value = 0
		}
		a.do(t, op, value, m)
	}
}

// P27.1 to P27.3: a server's life, by hand: files made, edited, handed on with fewer rights, revoked, destroyed, aged and made anew.
func TestMixed(t *testing.T) {
	a := over(t, 3, draws(40)...)
	root := a.d.owner(0)
	maker := a.mask(t, root, 4)
	pen := a.asks(t, Make, maker, 0, "a pen is blue", 0).Cap
	see, both := a.mask(t, pen, 1), a.mask(t, pen, 5)
	red := a.edit(t, both, 9, "red")
	a.text(t, red, "a pen is rede")
	better := a.edit(t, red, 12, ", too")
	a.text(t, better, "a pen is red, too")
	a.text(t, see, "a pen is blue")
	a.asks(t, Edit, see, 0, "A", api.ErrRights)
	a.asks(t, Edit, both, 14, "!", api.ErrBounds)
	newer := a.asks(t, skeleton.Revoke, pen, 0, "", 0).Cap
	a.asks(t, Read, see, 1, "", api.ErrCapability)
	a.asks(t, Edit, both, 0, "A", api.ErrCapability)
	a.text(t, newer, "a pen is blue")
	for range 12 {
		a.age(t)
	}
	a.asks(t, skeleton.Touch, better, 0, "", 0)
	for range 12 {
		a.age(t)
	}
	a.text(t, better, "a pen is red, too")
	ink := a.asks(t, Make, maker, 0, "ink", 0).Cap
	if ink.Object != 1 || ink.Check == newer.Check {
		t.Fatal(ink)
	}
	a.number(t, ink, 3)
	a.asks(t, Size, newer, 0, "", api.ErrCapability)
	a.room(t, all-20)
	a.asks(t, skeleton.Destroy, better, 0, "", 0)
	a.text(t, ink, "ink")
}

// latest is the place of the capability that was told last.
const latest = math.MaxInt

// steps is requests to a server, by the root, by the capability that was told first, and by the latest, and rounds.
func steps(t *testing.T) []func(a pair, told *[]api.Cap) {
	ask := func(op uint16, which int, arg uint64, data string) func(a pair, told *[]api.Cap) {
		return func(a pair, told *[]api.Cap) {
			last := len(*told) - 1
			if r := a.serve(t, request(op, (*told)[min(which, last)], arg, data)); r.Cap != (api.Cap{}) {
				*told = append(*told, r.Cap)
			}
		}
	}
	return []func(a pair, told *[]api.Cap){
		ask(Make, 0, 0, "file"),
		ask(Make, 0, 0, plenty[:32764]),
		ask(Edit, 1, 2, "LES"),
		ask(Edit, latest, 0, "P"),
		ask(Edit, latest, 4, ""),
		ask(Read, latest, 1<<32+3, ""),
		ask(skeleton.Destroy, 1, 0, ""),
		ask(skeleton.Destroy, latest, 0, ""),
		ask(skeleton.Restrict, latest, 5, ""),
		ask(skeleton.Revoke, 1, 0, ""),
		func(a pair, told *[]api.Cap) {
			for range 12 {
				a.age(t)
			}
		},
	}
}

// P27.1 to P27.3: each run of three of the steps behind a Make, with few draws, and with enough.
func TestRuns(t *testing.T) {
	list := steps(t)
	const length = 3
	runs := 1
	for range length {
		runs *= len(list)
	}
	for r := range runs {
		a := over(t, 3, draws(2+r%6)...)
		told := []api.Cap{a.d.owner(0), a.make(t, "text")}
		for rest, k := r, 0; k < length; rest, k = rest/len(list), k+1 {
			list[rest%len(list)](a, &told)
		}
		for _, c := range told {
			a.serve(t, request(Size, c, 0, ""))
		}
	}
}

// strew is a source of numbers below n.
func strew(seed uint64) func(n int) int {
	state := seed + 27
	return func(n int) int {
		state = state*6364136223846793005 + 1442695040888963407
		return int(state>>33) % n
	}
}

// turned is a capability with something of it turned, or nothing.
func turned(c api.Cap, draw func(n int) int) api.Cap {
	switch draw(40) {
	case 0:
		c.Port ^= 1 << draw(64)
	case 1:
		c.Object ^= 1 << draw(32)
	case 2:
		c.Rights ^= 1 << draw(8)
	case 3:
		c.Check ^= 1 << draw(64)
	case 4:
		c.Object = uint32(draw(8))
	}
	return c
}

// place is a number up to somewhat more than a file has bytes, often its very size.
func place(draw func(n int) int, size int) uint64 {
	switch draw(9) {
	case 0:
		return numbers[draw(len(numbers))]
	case 1, 2:
		return uint64(size + draw(2))
	}
	return uint64(draw(size + 1))
}

// many is how long data are: mostly short, at times so long that few such have room.
func many(draw func(n int) int) int {
	switch draw(12) {
	case 0:
		return draw(len(plenty))
	case 1:
		return draw(20000)
	}
	return draw(40)
}

// strewn is a request of any operation, by a capability of a file of so many bytes.
func strewn(draw func(n int) int, c api.Cap, size int) api.Message {
	known := []uint16{skeleton.Info, skeleton.Touch, skeleton.Restrict, skeleton.Revoke, skeleton.Destroy, Make, Make, Make, Make, Read, Read, Size, Edit, Edit, Edit}
	m := api.Message{To: uint64(draw(1 << 30)), Reply: uint64(draw(1 << 30)), ID: uint32(draw(1 << 30)), Op: known[draw(len(known))], Status: uint16(draw(1 << 16)), Cap: c}
	if draw(15) == 0 {
		m.Op = ops[draw(len(ops))]
	}
	m.Arg = place(draw, size)
	switch m.Op {
	case Read:
		at := place(draw, size)
		m.Arg = at<<32 + min(place(draw, max(size-int(at%all), 0)), 1<<32-1)
	case Make, Edit:
		n := many(draw)
		at := draw(len(plenty) - n + 1)
		m.Data = []byte(plenty[at : at+n])
	case skeleton.Restrict:
		m.Arg = uint64(draw(256) | draw(256))
	}
	return m
}

// P27.1 to P27.3: long strewn runs of all operations, by capabilities that were told at any time, whole and turned, with rounds between them.
func TestStrewn(t *testing.T) {
	seen := map[uint16]map[uint16]int{}
	aged := 0
	for seed := range uint64(200) {
		draw := strew(seed)
		a := over(t, uint64(draw(1<<20)), draws(3+draw(5+draw(200)))...)
		told := []api.Cap{a.d.owner(0)}
		ages := draw(7)
		for range 150 {
			if draw(20) < ages {
				aged += a.age(t)
				continue
			}
			c := told[max(draw(len(told)), draw(len(told)))]
			m := strewn(draw, c, len(a.d.texts[a.d.facts[int(c.Object)].value]))
			if m.Op == Make && draw(4) > 0 {
				m.Cap = a.d.owner(0)
			}
			m.Cap = turned(m.Cap, draw)
			r := a.serve(t, m)
			if seen[m.Op] == nil {
				seen[m.Op] = map[uint16]int{}
			}
			seen[m.Op][r.Status]++
			if r.Cap != (api.Cap{}) {
				told = append(told, r.Cap)
			}
		}
	}
	often(t, seen)
	if aged < 50 {
		t.Errorf("%d grew old alone", aged)
	}
}

// often holds that strewn runs met each thing that is told of an operation.
func often(t *testing.T, seen map[uint16]map[uint16]int) {
	t.Helper()
	always := []api.Errno{0, api.ErrCapability, api.ErrTape}
	for op, more := range map[uint16][]api.Errno{
		skeleton.Info:    nil,
		skeleton.Destroy: {api.ErrRights, api.ErrState},
		Make:             {api.ErrRights, api.ErrCommand, api.ErrMemory},
		Read:             {api.ErrRights, api.ErrCommand, api.ErrArgument, api.ErrBounds},
		Size:             {api.ErrRights, api.ErrCommand},
		Edit:             {api.ErrRights, api.ErrCommand, api.ErrBounds, api.ErrMemory},
	} {
		for _, fault := range append(slices.Clone(always), more...) {
			if n := seen[op][uint16(fault)]; n < 5 {
				t.Errorf("operation %d: %s came %d times alone", op, fmt.Sprint("status ", int(fault)), n)
			}
		}
	}
}
