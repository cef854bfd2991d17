package directory

import (
	"bytes"
	"math"
	"reflect"
	"slices"
	"strings"
	"testing"

	"sigillum/api"
	"sigillum/objects"
	"sigillum/oracle"
	"sigillum/skeleton"
	"sigillum/tape"
)

// The edges of masks, of the operations, and of directories' numbers.
var (
	args   = []uint64{0, 1, 2, 127, 128, 254, 255}
	beyond = []uint64{256, 257, 511, 512, 1 << 16, 1<<16 + 1, 1 << 32, 1<<32 + 255, 1 << 48, 1 << 63, 1<<63 + 1, math.MaxUint64 - 1, math.MaxUint64}
	ops    = []uint16{0, 1, 2, 3, 4, 5, 6, 50, 98, 99, 100, 101, 102, 103, 104, 105, 106, 200, 255, 256, 356, 357, 361, 1 << 15, 1<<16 - 2, 1<<16 - 1}
	values = []int{-1, 0, 1, 2, 3, 62, 63, 64, 65, -2, -64, 1 << 31, 1 << 32, math.MaxInt, math.MinInt, math.MinInt + 1}
)

// rest is an operation behind the last one of a directory.
const rest = List + 1

// fact is what the model knows of an object: all secrets that were drawn for it, of which the last one holds, and the round in which it was made or touched last.
type fact struct {
	secrets []uint64
	value   int
	since   int
}

// entered is what the model knows of a name: no place, but when it was entered.
type entered struct {
	c     api.Cap
	mask  uint8
	since int
}

// model has directories as names without an order: that it works out of when they were entered.
type model struct {
	port  uint64
	list  []uint64 // the draws that are left
	asked map[uint64]uint64
	round int
	facts map[int]fact
	made  int
	when  int
	names map[int]map[string]entered
}

func (d *model) draw() (uint64, api.Errno) {
	if len(d.list) == 0 {
		return 0, api.ErrTape
	}
	word := d.list[0] % (1 << 48)
	d.list = d.list[1:]
	return word, 0
}

// answer is the oracle's to a secret and rights.
func (d *model) answer(secret uint64, rights uint8) (uint64, api.Errno) {
	in := secret ^ uint64(rights)
	if out, ok := d.asked[in]; ok {
		return out, 0
	}
	out, fault := d.draw()
	if fault == 0 {
		d.asked[in] = out
	}
	return out, fault
}

// secret is that of object k, or 0, where there is none.
func (d *model) secret(k int) uint64 {
	all := append([]uint64{0}, d.facts[k].secrets...)
	return all[len(all)-1]
}

// check is the check of object k for rights.
func (d *model) check(k int, rights uint8) (uint64, api.Errno) {
	if rights == 255 {
		return d.secret(k), 0
	}
	return d.answer(d.secret(k), rights)
}

// owner is the owner's capability of object k.
func (d *model) owner(k int) api.Cap {
	return api.Cap{Port: d.port, Object: uint32(k), Rights: 255, Check: d.secret(k)}
}

// rounds is how many object k lives on.
func (d *model) rounds(k int) int {
	if k == 0 {
		return 24
	}
	return 24 - (d.round - d.facts[k].since)
}

// create is an object that stands for something.
func (d *model) create(value int) (api.Cap, api.Errno) {
	if len(d.facts) == 64 {
		return api.Cap{}, api.ErrFull
	}
	secret, fault := d.draw()
	if fault != 0 {
		return api.Cap{}, fault
	}
	for k := 0; ; k++ {
		if _, ok := d.facts[k]; !ok {
			d.facts[k] = fact{[]uint64{secret}, value, d.round}
			return d.owner(k), 0
		}
	}
}

// take is the object that a capability opens for some rights.
func (d *model) take(c api.Cap, need uint8) (int, api.Errno) {
	k := int(c.Object)
	if _, ok := d.facts[k]; !ok || c.Port != d.port {
		return 0, api.ErrCapability
	}
	check, fault := d.check(k, c.Rights)
	switch {
	case fault != 0:
		return 0, fault
	case check != c.Check:
		return 0, api.ErrCapability
	case lacks(c.Rights, need):
		return 0, api.ErrRights
	}
	return k, 0
}

// lacks is whether some of the rights that are needed are not there.
func lacks(rights, need uint8) bool {
	for bit := uint8(1); bit != 0; bit <<= 1 {
		if need&bit != 0 && rights&bit == 0 {
			return true
		}
	}
	return false
}

// row is the names of a directory, in order.
func (d *model) row(value int) []string {
	var all []string
	for n := range d.names[value] {
		all = append(all, n)
	}
	slices.SortFunc(all, func(a, b string) int { return d.names[value][a].since - d.names[value][b].since })
	return all
}

// told is the capability that is told of a row.
func (d *model) told(x entered) (skeleton.Result, api.Errno) {
	switch {
	case !lacks(x.mask, x.c.Rights):
		return skeleton.Result{Cap: x.c}, 0
	case x.c.Rights != 255:
		return skeleton.Result{}, api.ErrRights
	}
	check, fault := d.answer(x.c.Check, x.mask)
	if fault != 0 {
		return skeleton.Result{}, fault
	}
	return skeleton.Result{Cap: api.Cap{Port: x.c.Port, Object: x.c.Object, Rights: x.mask, Check: check}}, 0
}

// quiet is whether nothing is drawn for the capability of a row.
func (d *model) quiet(x entered) bool {
	_, known := d.asked[x.c.Check^uint64(x.mask)]
	return known || !lacks(x.mask, x.c.Rights) || x.c.Rights != 255 || len(d.list) == 0
}

// do is what an operation does to a value.
func (d *model) do(op uint16, value int, m api.Message) (skeleton.Result, api.Errno) {
	none := skeleton.Result{}
	switch {
	case op < 100 || op > 105:
		return none, api.ErrCommand
	case op == 100:
		c, fault := d.create(d.made + 1)
		if fault == 0 {
			d.made++
			delete(d.names, d.made)
		}
		return skeleton.Result{Cap: c}, fault
	case op == 105:
		return skeleton.Result{Data: named(d.row(value)...)}, 0
	}
	n, behind, ok := cut(m.Data)
	if !ok {
		return none, api.ErrArgument
	}
	x, there := d.names[value][n]
	switch {
	case op == 102 && there:
		return none, api.ErrExists
	case op != 102 && !there:
		return none, api.ErrNotFound
	case op == 104:
		delete(d.names[value], n)
		return none, 0
	case op == 101:
		return d.told(x)
	case len(behind) != 16 || m.Arg >= 256:
		return none, api.ErrArgument
	case op == 102 && len(d.names[value]) == 64:
		return none, api.ErrFull
	}
	when := x.since
	if !there {
		d.when++
		when = d.when
	}
	if d.names[value] == nil {
		d.names[value] = map[string]entered{}
	}
	d.names[value][n] = entered{capability(behind), uint8(m.Arg), when}
	return none, 0
}

// cut is the name of data, and what stands behind it.
func cut(b []byte) (string, []byte, bool) {
	if len(b) < 3 {
		return "", nil, false
	}
	n := int(b[0])*256 + int(b[1])
	if n < 1 || n > 32 || n > len(b)-2 {
		return "", nil, false
	}
	return string(b[2 : 2+n]), b[2+n:], true
}

// number is that of bytes, the high ones first.
func number(b []byte) uint64 {
	n := uint64(0)
	for _, x := range b {
		n = n*256 + uint64(x)
	}
	return n
}

// digits is the last so many bytes of a number, the high ones first.
func digits(n uint64, many int) []byte {
	b := make([]byte, many)
	for k := range b {
		b[many-1-k] = byte(n)
		n /= 256
	}
	return b
}

// capability is that of 16 bytes, and sealed its bytes.
func capability(b []byte) api.Cap {
	return api.Cap{Port: number(b[:6]), Object: uint32(number(b[6:9])), Rights: b[9], Check: number(b[10:])}
}

func sealed(c api.Cap) []byte {
	return slices.Concat(digits(c.Port, 6), digits(uint64(c.Object), 3), []byte{c.Rights}, digits(c.Check, 6))
}

// named is names, each with its length.
func named(names ...string) []byte {
	var b []byte
	for _, n := range names {
		b = append(append(b, byte(len(n)>>8), byte(len(n))), n...)
	}
	return b
}

// data is that of Enter and Replace: a name, and a capability behind it.
func data(name string, c api.Cap) []byte { return append(named(name), sealed(c)...) }

// work is what comes of a request.
func (d *model) work(m api.Message) (skeleton.Result, api.Errno) {
	none := skeleton.Result{}
	needs := map[uint16]uint8{1: 0, 2: 0, 3: 0, 4: 255, 5: 8, 100: 4, 101: 1, 102: 2, 103: 2, 104: 8, 105: 1}
	need, ok := needs[m.Op]
	switch {
	case m.Cap.Port>>48 != 0 || m.Cap.Check>>48 != 0 || m.Cap.Object>>24 != 0:
		return none, api.ErrCapability
	case !ok:
		return none, api.ErrCommand
	}
	k, fault := d.take(m.Cap, need)
	if fault != 0 {
		return none, fault
	}
	f := d.facts[k]
	switch m.Op {
	case 1:
		return skeleton.Result{Arg: uint64(len(f.secrets)-1)*4294967296 + uint64(d.rounds(k))}, 0
	case 2:
		d.facts[k] = fact{f.secrets, f.value, d.round}
		return none, 0
	case 3:
		rights := uint8(m.Arg%256) & m.Cap.Rights
		check, fault := d.check(k, rights)
		if fault != 0 {
			return none, fault
		}
		return skeleton.Result{Cap: api.Cap{Port: d.port, Object: uint32(k), Rights: rights, Check: check}}, 0
	case 4:
		secret, fault := d.draw()
		if fault != 0 {
			return none, fault
		}
		d.facts[k] = fact{append(slices.Clone(f.secrets), secret), f.value, f.since}
		return skeleton.Result{Cap: d.owner(k)}, 0
	case 5:
		if k == 0 {
			return none, api.ErrState
		}
		d.end(k)
		return none, 0
	}
	return d.do(m.Op, f.value, m)
}

// end has object k be no more, nor the rows of the directory that it stands for.
func (d *model) end(k int) {
	delete(d.names, d.facts[k].value)
	delete(d.facts, k)
}

func (d *model) age() int {
	d.round++
	gone := 0
	for k := range 64 {
		if _, ok := d.facts[k]; ok && d.rounds(k) == 0 {
			d.end(k)
			gone++
		}
	}
	return gone
}

// reply is what is to be answered to a request.
func (d *model) reply(m api.Message) api.Message {
	r, fault := d.work(m)
	return api.Message{To: m.Reply, Reply: m.To, ID: m.ID, Op: m.Op, Status: uint16(fault), Cap: r.Cap, Arg: r.Arg, Data: r.Data}
}

// alike is a message with memory of its own.
func alike(m api.Message) api.Message {
	m.Data = append([]byte(nil), m.Data...)
	return m
}

// same is whether two messages are the same; data without bytes is nil or empty, as one likes.
func same(a, b api.Message) bool { return reflect.DeepEqual(alike(a), alike(b)) }

// pair is a server of directories, and the model of it; where s is there, it is that server's service.
type pair struct {
	x *skeleton.Server
	s *Server
	t *objects.Table
	o *oracle.Oracle
	d *model
}

// facing is a model ahead of everything.
func facing(port uint64, list []uint64) *model {
	return &model{port: port, list: list, asked: map[uint64]uint64{}, facts: map[int]fact{}, names: map[int]map[string]entered{}}
}

// over is a server with its first directory, and its draws.
func over(t *testing.T, port uint64, list ...uint64) pair {
	t.Helper()
	o := oracle.Of(tape.Of(list))
	a := pair{t: objects.Of(port, o), o: o, d: facing(port, list)}
	want, fault := a.d.create(0)
	x, root, e := Of(a.t, o)
	if root != want || api.Number(e) != fault || (x == nil) != (e != nil) {
		t.Fatalf("Of: %v, %v, %v; want %v, %v", x, root, e, want, fault)
	}
	a.x = x
	a.look(t, "Of")
	return a
}

// bare is a service whose table has so many draws, and no object.
func bare(draw int) pair {
	list := draws(draw)
	o := oracle.Of(tape.Of(list))
	t := objects.Of(3, o)
	s := &Server{objects: t, draws: o}
	return pair{skeleton.Of(t, s), s, t, o, facing(3, list)}
}

// draws is a list of as many words: 1000, 2000, and so on.
func draws(many int) []uint64 {
	list := make([]uint64, many)
	for k := range list {
		list[k] = 1000 * uint64(k+1)
	}
	return list
}

// Capabilities of other servers.
var (
	own  = api.Cap{Port: 9, Object: 2, Rights: 255, Check: 33}
	part = api.Cap{Port: 9, Object: 3, Rights: 3, Check: 44}
	none = api.Cap{Port: 8, Object: 4, Check: 55}
)

// fill is a server of the port 3 with some names in its first directory, and with so many draws left.
func fill(t *testing.T, left int, names ...string) pair {
	t.Helper()
	a := over(t, 3, draws(1+left)...)
	for _, n := range names {
		a.enter(t, a.d.owner(0), n, own, 255)
	}
	return a
}

// look holds all that can be seen without a draw against the model.
func (a pair) look(t *testing.T, after string) {
	t.Helper()
	if a.t.Len() != len(a.d.facts) || a.o.Left() != len(a.d.list) || len(a.o.Entries()) != len(a.d.asked) {
		t.Fatalf("after %s: %d objects, %d left, %d asked; want %d, %d, %d", after, a.t.Len(), a.o.Left(), len(a.o.Entries()), len(a.d.facts), len(a.d.list), len(a.d.asked))
	}
	for k := range 64 {
		f, there := a.d.facts[k]
		if v, ok := a.t.Value(k); v != f.value || ok != there {
			t.Fatalf("after %s: Value(%d): %d, %v; want %d, %v", after, k, v, ok, f.value, there)
		}
		if !there {
			continue
		}
		if e, r, err := a.t.Info(a.d.owner(k)); e != len(f.secrets)-1 || r != a.d.rounds(k) || err != nil {
			t.Fatalf("after %s: Info of %d: %d, %d, %v; want %d, %d", after, k, e, r, err, len(f.secrets)-1, a.d.rounds(k))
		}
		a.rows(t, after, k)
	}
	if a.s != nil {
		a.kept(t, after)
	}
}

// rows holds the directory that object k stands for against the model.
func (a pair) rows(t *testing.T, after string, k int) {
	t.Helper()
	c, value := a.d.owner(k), a.d.facts[k].value
	all := a.d.row(value)
	if r := a.x.Serve(api.Message{Op: 105, Cap: c}); !same(r, api.Message{Op: 105, Data: named(all...)}) {
		t.Fatalf("after %s: the list of %d: %v; want %q", after, k, r, all)
	}
	for _, n := range all {
		x := a.d.names[value][n]
		if !a.d.quiet(x) {
			continue
		}
		want, fault := a.d.told(x)
		if r := a.x.Serve(api.Message{Op: 101, Cap: c, Data: named(n)}); r.Cap != want.Cap || r.Status != uint16(fault) || r.Arg != 0 || len(r.Data) != 0 {
			t.Fatalf("after %s: object %d has %q, %v; want %v, %v", after, k, n, r, want, fault)
		}
	}
}

// kept holds what is kept of directories, whether there are objects for them or not, against the model.
func (a pair) kept(t *testing.T, after string) {
	t.Helper()
	for value, all := range a.s.rows {
		if len(all) != len(a.d.names[value]) {
			t.Fatalf("after %s: directory %d has %d rows; want %d", after, value, len(all), len(a.d.names[value]))
		}
	}
	for value, all := range a.d.names {
		for k, n := range a.d.row(value) {
			if x := a.s.rows[value]; len(x) != len(all) || x[k] != (row{n, all[n].c, all[n].mask}) {
				t.Fatalf("after %s: directory %d has %v; want %v", after, value, x, all)
			}
		}
	}
}

// serve holds a reply against the model, what was handed in against what it was, and writes into both: nothing of the server hangs on them.
func (a pair) serve(t *testing.T, m api.Message) api.Message {
	t.Helper()
	held := alike(m)
	want := a.d.reply(alike(m))
	got := a.x.Serve(m)
	if !same(got, want) {
		t.Fatalf("Serve(%v): %v; want %v", held, got, want)
	}
	if !same(m, held) {
		t.Fatalf("Serve wrote into what was handed in: %v; it was %v", m, held)
	}
	for k := range got.Data {
		got.Data[k] ^= 0x55
	}
	if !same(m, held) {
		t.Fatal("what is answered shares memory with what was handed in")
	}
	for k := range m.Data {
		m.Data[k] ^= 0x33
	}
	a.look(t, "Serve")
	return want
}

// do holds what the service does by itself against the model, as serve does.
func (a pair) do(t *testing.T, op uint16, value int, m api.Message) (skeleton.Result, api.Errno) {
	t.Helper()
	held := alike(m)
	want, fault := a.d.do(op, value, alike(m))
	got, e := a.s.Do(op, value, m)
	if api.Number(e) != fault || (e == nil) != (fault == 0) {
		t.Fatalf("Do(%d, %d, %v): %v; want %v", op, value, held, e, fault)
	}
	if got.Cap != want.Cap || got.Arg != want.Arg || !bytes.Equal(got.Data, want.Data) {
		t.Fatalf("Do(%d, %d, %v): %v; want %v", op, value, held, got, want)
	}
	if !same(m, held) {
		t.Fatalf("Do wrote into what was handed in: %v; it was %v", m, held)
	}
	for k := range got.Data {
		got.Data[k] ^= 0x55
	}
	for k := range m.Data {
		m.Data[k] ^= 0x33
	}
	a.look(t, "Do")
	return want, fault
}

// asks holds the error of an answer to a request whose every part says something; what stands beside it is held against the model.
func (a pair) asks(t *testing.T, op uint16, c api.Cap, arg uint64, b []byte, want api.Errno) api.Message {
	t.Helper()
	held := bytes.Clone(b)
	r := a.serve(t, api.Message{To: 21, Reply: 22, ID: 23, Op: op, Status: 24, Cap: c, Arg: arg, Data: bytes.Clone(b)})
	if r.Status != uint16(want) {
		t.Fatalf("operation %d by %v with %d and %q: %v; want %v", op, c, arg, held, api.Errno(r.Status), want)
	}
	return r
}

// make makes a directory.
func (a pair) make(t *testing.T) api.Cap {
	t.Helper()
	return a.asks(t, Make, a.d.owner(0), 0, nil, 0).Cap
}

// enter enters a capability, and replace lays it into the place of another one.
func (a pair) enter(t *testing.T, by api.Cap, name string, c api.Cap, mask uint8) {
	t.Helper()
	a.asks(t, Enter, by, uint64(mask), data(name, c), 0)
}

func (a pair) replace(t *testing.T, by api.Cap, name string, c api.Cap, mask uint8) {
	t.Helper()
	a.asks(t, Replace, by, uint64(mask), data(name, c), 0)
}

// sees holds the capability of a name against one that is written out.
func (a pair) sees(t *testing.T, by api.Cap, name string, want api.Cap) {
	t.Helper()
	if r := a.asks(t, Lookup, by, 0, named(name), 0); r.Cap != want {
		t.Fatalf("%q: %v; want %v", name, r.Cap, want)
	}
}

// lists holds the names of a directory against such as are written out.
func (a pair) lists(t *testing.T, by api.Cap, want ...string) {
	t.Helper()
	if r := a.asks(t, List, by, 0, nil, 0); !bytes.Equal(r.Data, named(want...)) {
		t.Fatalf("%q; want %q", r.Data, want)
	}
}

// mask is a restricted capability.
func (a pair) mask(t *testing.T, c api.Cap, rights uint8) api.Cap {
	t.Helper()
	return a.asks(t, skeleton.Restrict, c, uint64(rights), nil, 0).Cap
}

// foreign makes an object that no Make did.
func (a pair) foreign(t *testing.T, value int) api.Cap {
	t.Helper()
	want, fault := a.d.create(value)
	if c, e := a.t.Create(value); c != want || api.Number(e) != fault {
		t.Fatalf("Create(%d): %v, %v; want %v, %v", value, c, e, want, fault)
	}
	a.look(t, "Create")
	return want
}

func (a pair) age(t *testing.T) int {
	t.Helper()
	want := a.d.age()
	if n := a.x.Age(); n != want {
		t.Fatalf("Age: %d; want %d", n, want)
	}
	a.look(t, "Age")
	return want
}

// many is so many names, each of them another one.
func many(n int) []string {
	var all []string
	for k := range n {
		all = append(all, "n"+string(rune('0'+k/10))+string(rune('0'+k%10)))
	}
	return all
}

// P26.1 to P26.3: the chapter's example.
func TestExample(t *testing.T) {
	o := oracle.Of(tape.Of([]uint64{5, 60}))
	x, root, e := Of(objects.Of(7, o), o)
	if e != nil || root != (api.Cap{Port: 7, Rights: 255, Check: 5}) {
		t.Fatal(root, e)
	}
	a := data("a", own)
	if r := x.Serve(api.Message{Op: Enter, Cap: root, Arg: 1, Data: a}); !same(r, api.Message{Op: 102}) {
		t.Error(r)
	}
	if r := x.Serve(api.Message{Op: Lookup, Cap: root, Data: []byte("\x00\x01a")}); !same(r, api.Message{Op: 101, Cap: api.Cap{Port: 9, Object: 2, Rights: 1, Check: 60}}) {
		t.Error(r)
	}
	if r := x.Serve(api.Message{Op: Enter, Cap: root, Arg: 1, Data: a}); !same(r, api.Message{Op: 102, Status: uint16(api.ErrExists)}) {
		t.Error(r)
	}
}

// The operations are numbers that others know, too.
func TestOperations(t *testing.T) {
	if !slices.Equal([]uint16{Make, Lookup, Enter, Replace, Delete, List}, []uint16{100, 101, 102, 103, 104, 105}) {
		t.Error(Make, Lookup, Enter, Replace, Delete, List)
	}
}

// The server is an interface to its skeleton.
func TestInterface(t *testing.T) {
	var s skeleton.Service = &Server{}
	if need, ok := s.Need(Make); need != 4 || !ok {
		t.Error(need, ok)
	}
}

// P26.1: Of takes one draw, for the directory 0, which has no rows, and answers the capability of its owner, of the table's port.
func TestOf(t *testing.T) {
	for _, port := range []uint64{0, 1, 3, 1 << 32, api.Word} {
		for _, list := range [][]uint64{{5}, {0, 1}, {api.Word, 7, 7}, {1 << 48, 2}, {math.MaxUint64}} {
			o := oracle.Of(tape.Of(list))
			x := objects.Of(port, o)
			s, c, e := Of(x, o)
			if s == nil || e != nil || c != (api.Cap{Port: port, Rights: 255, Check: list[0] & api.Word}) {
				t.Fatal(port, list, s, c, e)
			}
			if v, ok := x.Value(0); v != 0 || !ok || x.Len() != 1 || o.Left() != len(list)-1 || len(o.Entries()) != 0 {
				t.Fatal(v, ok, x.Len(), o.Left())
			}
			if k, e := x.Check(c, 255); k != 0 || e != nil {
				t.Fatal(k, e)
			}
			if r := s.Serve(api.Message{Op: skeleton.Info, Cap: c}); !same(r, api.Message{Op: 1, Arg: 24}) {
				t.Fatal(r)
			}
			if r := s.Serve(api.Message{Op: List, Cap: c}); !same(r, api.Message{Op: 105}) {
				t.Fatal(r)
			}
		}
	}
}

// P26.1: of a table that has no draw left, nil, a zero capability and the error; nothing is made.
func TestOfWithoutDraws(t *testing.T) {
	spent := oracle.Of(tape.Of([]uint64{1}))
	spent.Draw()
	for k, o := range []*oracle.Oracle{nil, oracle.Of(nil), oracle.Of(tape.Of(nil)), spent} {
		x := objects.Of(9, o)
		s, c, e := Of(x, o)
		if s != nil || c != (api.Cap{}) || api.Number(e) != api.ErrTape || x.Len() != 0 {
			t.Fatal(k, s, c, e, x.Len())
		}
	}
}

// P26.1: the error is the one of Create, also of a table that is full.
func TestOfFull(t *testing.T) {
	o := oracle.Of(tape.Of(draws(70)))
	x := objects.Of(9, o)
	for k := range 64 {
		x.Create(k)
	}
	if s, c, e := Of(x, o); s != nil || c != (api.Cap{}) || api.Number(e) != api.ErrFull || x.Len() != 64 || o.Left() != 6 {
		t.Fatal(s, c, e, x.Len(), o.Left())
	}
}

// P26.1: a nil oracle has no draws: what is to be restricted is ErrTape, all else is as ever.
func TestOfNilOracle(t *testing.T) {
	x, root, e := Of(objects.Of(3, oracle.Of(tape.Of(draws(9)))), nil)
	if x == nil || e != nil || root != (api.Cap{Port: 3, Rights: 255, Check: 1000}) {
		t.Fatal(x, root, e)
	}
	ask := func(op uint16, arg uint64, b []byte, want api.Message) {
		t.Helper()
		want.Op = op
		if r := x.Serve(api.Message{Op: op, Cap: root, Arg: arg, Data: b}); !same(r, want) {
			t.Fatalf("%d: %v; want %v", op, r, want)
		}
	}
	tape := api.Message{Status: uint16(api.ErrTape)}
	ask(Enter, 255, data("whole", own), api.Message{})
	ask(Enter, 254, data("less", own), api.Message{})
	ask(Enter, 3, data("part", part), api.Message{})
	ask(Enter, 2, data("no", part), api.Message{})
	ask(Lookup, 0, named("whole"), api.Message{Cap: own})
	ask(Lookup, 0, named("less"), tape)
	ask(Lookup, 0, named("less"), tape)
	ask(Lookup, 0, named("part"), api.Message{Cap: part})
	ask(Lookup, 0, named("no"), api.Message{Status: uint16(api.ErrRights)})
	ask(Make, 0, nil, api.Message{Cap: api.Cap{Port: 3, Object: 1, Rights: 255, Check: 2000}})
	ask(List, 0, nil, api.Message{Data: named("whole", "less", "part", "no")})
}

// P26.1: what is restricted is drawn of the oracle that Of was given.
func TestOfOracle(t *testing.T) {
	o := oracle.Of(tape.Of([]uint64{70, 80}))
	x, root, _ := Of(objects.Of(3, oracle.Of(tape.Of(draws(9)))), o)
	x.Serve(api.Message{Op: Enter, Cap: root, Arg: 1, Data: data("a", own)})
	want := api.Message{Op: 101, Cap: api.Cap{Port: 9, Object: 2, Rights: 1, Check: 70}}
	for range 3 {
		if r := x.Serve(api.Message{Op: Lookup, Cap: root, Data: named("a")}); !same(r, want) || o.Left() != 1 {
			t.Fatal(r, o.Left())
		}
	}
	if all := o.Entries(); !slices.Equal(all, []oracle.Entry{{Of: oracle.Check, In: 32, Out: 70}}) {
		t.Fatal(all)
	}
}

// P26.1: two servers have directories of their own.
func TestOfTwo(t *testing.T) {
	a, b := over(t, 3, draws(9)...), over(t, 3, draws(9)...)
	a.enter(t, a.d.owner(0), "a", own, 255)
	b.lists(t, b.d.owner(0))
	b.enter(t, b.d.owner(0), "b", part, 255)
	a.lists(t, a.d.owner(0), "a")
	if c := a.make(t); c != b.make(t) {
		t.Fatal(c)
	}
	a.enter(t, a.d.owner(1), "c", own, 255)
	b.asks(t, Lookup, b.d.owner(1), 0, named("c"), api.ErrNotFound)
	a.asks(t, skeleton.Destroy, a.d.owner(1), 0, nil, 0)
	b.lists(t, b.d.owner(1))
}

// P26.2: Need of each operation there can be: Create of Make, Read of Lookup and List, Write of Enter and Replace, Delete of Delete; of any other 0 and false.
func TestNeed(t *testing.T) {
	want := map[uint16]uint8{100: api.Create, 101: api.Read, 102: api.Write, 103: api.Write, 104: api.Delete, 105: api.Read}
	for _, s := range []*Server{bare(4).s, bare(0).s, {}} {
		for op := range 1 << 16 {
			need, ok := s.Need(uint16(op))
			if w, there := want[uint16(op)]; need != w || ok != there {
				t.Fatalf("Need(%d): %d, %v; want %d, %v", op, need, ok, w, there)
			}
		}
	}
}

// P26.2: by capabilities of all rights there can be each operation is done, or ErrRights, as its need is; nothing is changed by one that is refused.
func TestRights(t *testing.T) {
	for op, need := range map[uint16]int{Make: 4, Lookup: 1, Enter: 2, Replace: 2, Delete: 8, List: 1} {
		a := fill(t, 600, "is")
		for rights := range 256 {
			want := api.ErrRights
			if rights&need != 0 {
				want = 0
			}
			c := a.mask(t, a.d.owner(0), uint8(rights))
			b := data("is", own)
			switch {
			case op == Make && want == 0 && len(a.d.facts) == 64:
				a.asks(t, skeleton.Destroy, a.d.owner(30), 0, nil, 0)
			case op == Enter && want == 0:
				a.asks(t, Delete, a.d.owner(0), 0, b, 0)
			case op != Make && op != List && rights%5 == 0:
				b = b[:1] // what is asked is looked at only behind the rights
				if want == 0 {
					want = api.ErrArgument
				}
			}
			a.asks(t, op, c, 255, b, want)
			if op == Delete && want == 0 {
				a.enter(t, a.d.owner(0), "is", own, 255)
			}
		}
	}
}

// P26.2: capabilities that are not good: each operation is ErrCapability, and nothing is changed, nor drawn for such as no object has.
func TestCapabilities(t *testing.T) {
	a := fill(t, 40, "is")
	a.make(t)
	by := a.make(t)
	a.enter(t, by, "is", part, 7)
	see := a.mask(t, by, 1)
	bad := []api.Cap{{}, {Port: 3}}
	for _, turn := range []func(c *api.Cap){
		func(c *api.Cap) { c.Port = 4 },
		func(c *api.Cap) { c.Port = 0 },
		func(c *api.Cap) { c.Port |= 1 << 48 },
		func(c *api.Cap) { c.Port |= 1 << 63 },
		func(c *api.Cap) { c.Object = 3 },
		func(c *api.Cap) { c.Object = 1 },
		func(c *api.Cap) { c.Object = 0 },
		func(c *api.Cap) { c.Object = 64 },
		func(c *api.Cap) { c.Object = 1<<24 - 1 },
		func(c *api.Cap) { c.Object = 1<<24 + 2 },
		func(c *api.Cap) { c.Object = math.MaxUint32 },
		func(c *api.Cap) { c.Check++ },
		func(c *api.Cap) { c.Check ^= 1 << 47 },
		func(c *api.Cap) { c.Check ^= 1 << 48 },
		func(c *api.Cap) { c.Check ^= 1 << 63 },
		func(c *api.Cap) { c.Rights ^= 2 },
		func(c *api.Cap) { c.Rights ^= 128 },
	} {
		for _, c := range []api.Cap{by, see} {
			turn(&c)
			bad = append(bad, c)
		}
	}
	for _, c := range bad {
		for op := Make; op <= List; op++ {
			for _, b := range [][]byte{nil, data("is", own), data("new", own)} {
				a.asks(t, op, c, 1, b, api.ErrCapability)
			}
		}
	}
	a.lists(t, by, "is")
	newer := a.asks(t, skeleton.Revoke, by, 0, nil, 0).Cap
	for op := Make; op <= List; op++ {
		a.asks(t, op, by, 0, data("is", own), api.ErrCapability)
		a.asks(t, op, see, 0, data("is", own), api.ErrCapability)
	}
	a.sees(t, newer, "is", part)
}

// P26.2: a restricted capability is asked about by a draw; where there is none, that is told, and nothing is done.
func TestCapabilityWithoutDraws(t *testing.T) {
	a := fill(t, 0, "is")
	c := a.d.owner(0)
	c.Rights = 254
	for op := Make; op <= List; op++ {
		for _, b := range [][]byte{nil, data("is", part), data("new", part)} {
			a.asks(t, op, c, 1, b, api.ErrTape)
		}
	}
	a.sees(t, a.d.owner(0), "is", own)
}

// P26.2: operations that there are not are ErrCommand, by a request as by Do, whatever stands beside them, and change nothing.
func TestCommand(t *testing.T) {
	a := fill(t, 9, "is")
	b := bare(9)
	b.do(t, Enter, 0, api.Message{Data: data("is", own)})
	for op := range 1 << 16 {
		if op <= 5 || op >= 100 && op <= 105 {
			continue
		}
		r := a.x.Serve(api.Message{Op: uint16(op), Cap: a.d.owner(0), Data: data("is", part)})
		if !same(r, api.Message{Op: uint16(op), Status: uint16(api.ErrCommand)}) {
			t.Fatal(op, r)
		}
	}
	for _, op := range ops {
		for _, name := range []string{"", "is", "new"} {
			for _, value := range values {
				if op < 100 || op > 105 {
					b.do(t, op, value, api.Message{Data: data(name, part)})
				}
			}
		}
	}
	a.look(t, "Serve")
}

// P26.2: Make is the owner's capability of a directory without rows, of the next number, whoever's directory it is asked of, and whatever Arg and data are.
func TestMake(t *testing.T) {
	a := over(t, 3, draws(40)...)
	by := a.d.owner(0)
	for k := 1; k < 20; k++ {
		c := a.asks(t, Make, by, uint64(k)<<60, data("is", own)[:k], 0).Cap
		if c != (api.Cap{Port: 3, Object: uint32(k), Rights: 255, Check: 1000 * uint64(k+1)}) {
			t.Fatal(k, c)
		}
		if v, ok := a.t.Value(k); v != k || !ok {
			t.Fatal(k, v, ok)
		}
		a.lists(t, c)
		a.enter(t, c, "is", own, 255)
		a.asks(t, Enter, c, 255, data("is", own), api.ErrExists)
		by = c
	}
	made := a.asks(t, Make, a.mask(t, by, 4), 0, nil, 0).Cap
	a.asks(t, Make, a.mask(t, by, 251), 0, nil, api.ErrRights)
	a.enter(t, made, "is", own, 255)
}

// P26.2: the number of a directory that is gone is none's again, though its object's is.
func TestNumbers(t *testing.T) {
	a := over(t, 3, draws(40)...)
	a.make(t)
	a.make(t)
	a.make(t)
	for k, want := range []int{4, 5, 6, 7} {
		c := a.d.owner(1 + k%3)
		a.enter(t, c, "is", own, 255)
		a.asks(t, skeleton.Destroy, c, 0, nil, 0)
		n := a.make(t)
		if n.Object != c.Object {
			t.Fatal(n)
		}
		if v, ok := a.t.Value(int(n.Object)); v != want || !ok {
			t.Fatal(v, ok)
		}
		a.lists(t, n)
	}
	for range 24 {
		a.age(t)
	}
	a.make(t)
	if v, _ := a.t.Value(1); v != 8 {
		t.Fatal(v)
	}
}

// P26.2: of 64 directories there is no room for one more: ErrFull, no draw is taken, and no number.
func TestMakeFull(t *testing.T) {
	a := over(t, 3, draws(70)...)
	for range 63 {
		a.make(t)
	}
	for range 3 {
		a.asks(t, Make, a.d.owner(0), 0, nil, api.ErrFull)
	}
	if a.o.Left() != 6 {
		t.Fatal(a.o.Left())
	}
	a.asks(t, skeleton.Destroy, a.d.owner(5), 0, nil, 0)
	a.make(t)
	if v, _ := a.t.Value(5); v != 64 {
		t.Fatal(v)
	}
	a.asks(t, Make, a.d.owner(5), 0, nil, api.ErrFull)
}

// P26.2: where there is no draw, Make is ErrTape, and takes no number; ErrFull is told ahead of it.
func TestMakeWithoutDraws(t *testing.T) {
	a := over(t, 3, draws(3)...)
	a.make(t)
	a.make(t)
	for range 3 {
		a.asks(t, Make, a.d.owner(0), 0, nil, api.ErrTape)
	}
	a.lists(t, a.d.owner(0))
	b := over(t, 3, draws(64)...)
	for range 63 {
		b.make(t)
	}
	b.asks(t, Make, b.d.owner(0), 0, nil, api.ErrFull)
}

// P26.2: a Make that is refused takes no number, also where draws come behind it.
func TestMakeRefused(t *testing.T) {
	a := over(t, 3, draws(80)...)
	for range 63 {
		a.make(t)
	}
	for range 5 {
		a.asks(t, Make, a.d.owner(0), 0, nil, api.ErrFull)
	}
	for k := 10; k < 14; k++ {
		a.asks(t, skeleton.Destroy, a.d.owner(k), 0, nil, 0)
	}
	for k := 10; k < 14; k++ {
		a.make(t)
		if v, _ := a.t.Value(k); v != 54+k {
			t.Fatal(k, v)
		}
	}
}

// P26.2: names of 1 to 32 bytes are good, of each length, others are ErrArgument; each operation that takes one alike.
func TestNames(t *testing.T) {
	for n := range 70 {
		a := fill(t, 4, "is")
		by := a.d.owner(0)
		name := strings.Repeat("x", n)
		good, not, there := api.Errno(0), api.ErrNotFound, api.ErrExists
		if n < 1 || n > 32 {
			good, not, there = api.ErrArgument, api.ErrArgument, api.ErrArgument
		}
		for _, op := range []uint16{Lookup, Replace, Delete} {
			a.asks(t, op, by, 255, data(name, own), not)
		}
		a.asks(t, Enter, by, 255, data(name, own), good)
		a.asks(t, Enter, by, 255, data(name, own), there)
		a.asks(t, Lookup, by, 255, data(name, own), good)
		a.asks(t, Replace, by, 255, data(name, part), good)
		a.asks(t, Lookup, by, 255, data(name, own), good)
		if good == 0 {
			a.lists(t, by, "is", name)
		} else {
			a.lists(t, by, "is")
		}
		a.asks(t, Delete, by, 255, data(name, own), good)
		a.asks(t, Delete, by, 255, data(name, own), not)
		a.lists(t, by, "is")
	}
}

// P26.2: names of any bytes are names, each another one.
func TestNamesOfAnyBytes(t *testing.T) {
	a := over(t, 3, draws(600)...)
	by := a.d.owner(0)
	for k := range 64 {
		a.enter(t, by, string([]byte{byte(4 * k)}), own, uint8(k))
	}
	for k := range 256 {
		want := api.ErrNotFound
		if k%4 == 0 {
			want = 0
		}
		a.asks(t, Lookup, by, 0, []byte{0, 1, byte(k)}, want)
	}
	odd := []string{"\x00", "\x00\x00", "a\x00", "a", "A", "a ", " a", "\xff", "\xff\xfe", "\u00e4", "a\u0308", "\u212a", "K", "k", "/", "..", "\n", strings.Repeat("\x00", 32), strings.Repeat("\xff", 32), strings.Repeat("\xff", 31) + "\xfe"}
	b := over(t, 3, draws(4)...)
	for _, n := range odd {
		b.enter(t, b.d.owner(0), n, own, 255)
	}
	b.lists(t, b.d.owner(0), odd...)
	for k, n := range odd {
		b.asks(t, Delete, b.d.owner(0), 0, named(n), 0)
		b.lists(t, b.d.owner(0), odd[k+1:]...)
	}
}

// P26.2: names of which one begins another one are not the same.
func TestNamesBegun(t *testing.T) {
	a := over(t, 3, draws(4)...)
	by := a.d.owner(0)
	for n := 32; n > 0; n-- {
		a.asks(t, Lookup, by, 0, named(strings.Repeat("y", n)), api.ErrNotFound)
		c := own
		c.Object = uint32(n)
		a.enter(t, by, strings.Repeat("y", n), c, 255)
	}
	for n := 1; n <= 32; n++ {
		c := own
		c.Object = uint32(n)
		a.sees(t, by, strings.Repeat("y", n), c)
	}
}

// P26.2: data that end within the name, or within its length, are ErrArgument, and so are those whose length is greater than any name's.
func TestNameCut(t *testing.T) {
	a := fill(t, 4, "is", "i", "isa")
	by := a.d.owner(0)
	whole := named("isabel")
	bad := [][]byte{nil, {}}
	for n := range len(whole) {
		bad = append(bad, whole[:n])
	}
	for _, n := range []int{0, 33, 34, 255, 256, 257, 258, 288, 512, 4000, 32768, 65535} {
		bad = append(bad, append(digits(uint64(n), 2), strings.Repeat("i", 64)...), append(digits(uint64(n), 2), strings.Repeat("i", 4000)...))
	}
	for _, b := range bad {
		for _, op := range []uint16{Lookup, Enter, Replace, Delete} {
			a.asks(t, op, by, 1, b, api.ErrArgument)
		}
		a.asks(t, List, by, 1, b, 0)
	}
	a.lists(t, by, "is", "i", "isa")
}

// P26.2: what stands behind the name in the data of Lookup and Delete is not looked at, nor is Arg.
func TestBehindName(t *testing.T) {
	for _, behind := range []string{"", "\x00", "x", "is", string(sealed(part)), string(sealed(part)) + "y", strings.Repeat("z", 4000)} {
		for _, arg := range slices.Concat(args, beyond) {
			a := fill(t, 4, "was", "is")
			b := append(named("is"), behind...)
			if r := a.asks(t, Lookup, a.d.owner(0), arg, b, 0); r.Cap != own {
				t.Fatal(r)
			}
			a.asks(t, Delete, a.d.owner(0), arg, b, 0)
			a.asks(t, Delete, a.d.owner(0), arg, b, api.ErrNotFound)
			a.asks(t, Lookup, a.d.owner(0), arg, b, api.ErrNotFound)
			a.lists(t, a.d.owner(0), "was")
		}
	}
}

// P26.2: Lookup, Replace and Delete of a name that is not there are ErrNotFound, Enter of one that is ErrExists, in each directory for itself.
func TestThere(t *testing.T) {
	a := fill(t, 9, "is")
	other := a.make(t)
	a.enter(t, other, "elsewhere", part, 255)
	for _, name := range []string{"elsewhere", "i", "iss", "Is", "is\x00"} {
		for _, op := range []uint16{Lookup, Replace, Delete} {
			a.asks(t, op, a.d.owner(0), 1, data(name, own), api.ErrNotFound)
		}
	}
	for _, op := range []uint16{Lookup, Replace, Delete} {
		a.asks(t, op, other, 1, data("is", own), api.ErrNotFound)
	}
	a.asks(t, Enter, a.d.owner(0), 1, data("is", part), api.ErrExists)
	a.asks(t, Enter, other, 1, data("elsewhere", own), api.ErrExists)
	a.enter(t, other, "is", part, 255)
	a.sees(t, other, "is", part)
	a.sees(t, a.d.owner(0), "is", own)
}

// P26.2: List is all names of its directory, in order, with their lengths: none, one, and as many as there can be; Arg and data are not looked at.
func TestList(t *testing.T) {
	a := fill(t, 9)
	by := a.d.owner(0)
	a.lists(t, by)
	a.enter(t, by, "b", own, 0)
	a.lists(t, by, "b")
	a.enter(t, by, "a", own, 0)
	a.enter(t, by, "cc", own, 0)
	if r := a.asks(t, List, by, math.MaxUint64, data("a", own), 0); string(r.Data) != "\x00\x01b\x00\x01a\x00\x02cc" || r.Arg != 0 || r.Cap != (api.Cap{}) {
		t.Fatal(r)
	}
	b := over(t, 3, draws(9)...)
	var all []string
	for k := range 64 {
		all = append(all, strings.Repeat(string(rune(127-k)), 32))
		b.enter(t, b.d.owner(0), all[k], none, 255)
		b.lists(t, b.d.owner(0), all...)
	}
	if r := b.asks(t, List, b.mask(t, b.d.owner(0), 1), 0, nil, 0); len(r.Data) != 64*34 {
		t.Fatal(len(r.Data))
	}
}

// P26.3: Delete: that row is no more, all others stay, in order; a name that is entered again is behind all.
func TestDelete(t *testing.T) {
	for k := range 6 {
		names := []string{"a", "b", "c", "d", "e", "f"}
		a := fill(t, 4, names...)
		by := a.d.owner(0)
		gone := names[k]
		if r := a.asks(t, Delete, by, 0, named(gone), 0); r.Cap != (api.Cap{}) || r.Arg != 0 || len(r.Data) != 0 {
			t.Fatal(r)
		}
		names = slices.Delete(names, k, k+1)
		a.lists(t, by, names...)
		for _, op := range []uint16{Lookup, Delete, Replace} {
			a.asks(t, op, by, 1, data(gone, part), api.ErrNotFound)
		}
		a.enter(t, by, gone, part, 255)
		a.lists(t, by, append(names, gone)...)
		a.sees(t, by, gone, part)
		for _, n := range names {
			a.sees(t, by, n, own)
			a.asks(t, Delete, by, 0, named(n), 0)
		}
		a.asks(t, Delete, by, 0, named(gone), 0)
		a.lists(t, by)
		a.enter(t, by, gone, own, 255)
		a.lists(t, by, gone)
	}
}

// P26.3: Enter and Replace take the capability of all that stands behind the name: of 16 bytes, no fewer and no more.
func TestCapabilityBytes(t *testing.T) {
	for n := range 66 {
		a := fill(t, 4, "is")
		by := a.d.owner(0)
		want := api.ErrArgument
		if n == 16 {
			want = 0
		}
		behind := bytes.Repeat(sealed(part), 5)[:n]
		a.asks(t, Enter, by, 255, append(named("new"), behind...), want)
		a.asks(t, Replace, by, 255, append(named("is"), behind...), want)
		if n == 16 {
			a.sees(t, by, "new", part)
			a.sees(t, by, "is", part)
			continue
		}
		a.lists(t, by, "is")
		a.sees(t, by, "is", own)
	}
}

// P26.3: the capability that is told is the one that was entered, whatever its parts are.
func TestCapabilityParts(t *testing.T) {
	for _, c := range []api.Cap{
		{},
		{Port: api.Word, Object: api.Objects - 1, Rights: 255, Check: api.Word},
		{Port: 1 << 47}, {Port: 1}, {Port: 0x0102030405}, {Port: 0x060708090a0b},
		{Object: 1}, {Object: 1 << 23}, {Object: 0x010203},
		{Rights: 1}, {Rights: 128}, {Rights: 127},
		{Check: 1 << 47}, {Check: 1}, {Check: 0x060504030201},
		{Port: 1, Object: 2, Rights: 3, Check: 4},
	} {
		a := fill(t, 4, "is")
		a.enter(t, a.d.owner(0), "new", c, 255)
		a.replace(t, a.d.owner(0), "is", c, 255)
		a.sees(t, a.d.owner(0), "new", c)
		a.sees(t, a.d.owner(0), "is", c)
	}
}

// P26.3: Arg is the mask, of no more than Owner: else ErrArgument, and nothing is entered, nor replaced.
func TestArg(t *testing.T) {
	for _, arg := range args {
		a := fill(t, 4, "is")
		by := a.d.owner(0)
		a.asks(t, Enter, by, arg, data("new", own), 0)
		a.asks(t, Replace, by, arg, data("is", own), 0)
		want := own
		if arg != 255 {
			want.Rights, want.Check = uint8(arg), 2000
		}
		a.sees(t, by, "new", want)
		a.sees(t, by, "is", want)
	}
	for _, arg := range beyond {
		a := fill(t, 4, "is")
		by := a.d.owner(0)
		a.asks(t, Enter, by, arg, data("new", part), api.ErrArgument)
		a.asks(t, Replace, by, arg, data("is", part), api.ErrArgument)
		a.lists(t, by, "is")
		a.sees(t, by, "is", own)
	}
}

// P26.3: a directory has 64 rows, and no more: one more by Enter is ErrFull, behind all else that is wrong with it; Replace is done then, and there is room again behind a Delete; other directories have rows of their own.
func TestFull(t *testing.T) {
	a := fill(t, 9, many(63)...)
	by := a.d.owner(0)
	a.enter(t, by, "last", part, 255)
	for range 3 {
		a.asks(t, Enter, by, 255, data("more", part), api.ErrFull)
	}
	a.asks(t, Enter, by, 256, data("more", part), api.ErrArgument)
	a.asks(t, Enter, by, 255, named("more"), api.ErrArgument)
	a.asks(t, Enter, by, 255, data("", part), api.ErrArgument)
	a.asks(t, Enter, by, 255, data("last", part), api.ErrExists)
	a.replace(t, by, "n00", part, 255)
	a.replace(t, by, "last", own, 255)
	a.sees(t, by, "n00", part)
	a.asks(t, Replace, by, 255, data("more", part), api.ErrNotFound)
	other := a.make(t)
	for _, n := range many(64) {
		a.enter(t, other, n, part, 255)
	}
	a.asks(t, Enter, other, 255, data("more", part), api.ErrFull)
	a.asks(t, Delete, by, 0, named("n30"), 0)
	a.asks(t, Enter, other, 255, data("more", part), api.ErrFull)
	a.enter(t, by, "more", part, 255)
	a.asks(t, Enter, by, 255, data("n30", part), api.ErrFull)
	a.lists(t, by, slices.Concat(many(30), many(63)[31:], []string{"last", "more"})...)
}

// P26.3: Replace leaves the row at its place, with the new capability and the new mask, both.
func TestReplace(t *testing.T) {
	names := []string{"a", "b", "c"}
	for _, n := range names {
		a := fill(t, 9, names...)
		by := a.d.owner(0)
		if r := a.asks(t, Replace, by, 2, data(n, own), 0); r.Cap != (api.Cap{}) || r.Arg != 0 || len(r.Data) != 0 {
			t.Fatal(r)
		}
		a.lists(t, by, names...)
		a.sees(t, by, n, api.Cap{Port: 9, Object: 2, Rights: 2, Check: 2000})
		a.replace(t, by, n, part, 3)
		a.sees(t, by, n, part)
		a.replace(t, by, n, own, 4)
		a.sees(t, by, n, api.Cap{Port: 9, Object: 2, Rights: 4, Check: 3000})
		a.replace(t, by, n, part, 2)
		a.asks(t, Lookup, by, 0, named(n), api.ErrRights)
		a.replace(t, by, n, own, 255)
		a.sees(t, by, n, own)
		a.lists(t, by, names...)
	}
}

// P26.3: Lookup of capabilities of all rights, with all masks: it itself, if the mask has all of them; else one that is restricted, of an owner's, and ErrRights of others.
func TestLookup(t *testing.T) {
	s := bare(300).s
	for rights := range 256 {
		for mask := range 256 {
			c := api.Cap{Port: 9, Object: 2, Rights: uint8(rights), Check: 33}
			if r, e := s.Do(Enter, 7, api.Message{Arg: uint64(mask), Data: data("a", c)}); !reflect.DeepEqual(r, skeleton.Result{}) || e != nil {
				t.Fatal(rights, mask, r, e)
			}
			r, e := s.Do(Lookup, 7, api.Message{Data: named("a")})
			s.Do(Delete, 7, api.Message{Data: named("a")})
			want, fault := skeleton.Result{Cap: c}, api.Errno(0)
			if rights == 255 && mask != 255 {
				// The draws come in the order of the masks.
				want.Cap = api.Cap{Port: 9, Object: 2, Rights: uint8(mask), Check: 1000 * uint64(mask+1)}
			} else if rights|mask != mask {
				want, fault = skeleton.Result{}, api.ErrRights
			}
			if !reflect.DeepEqual(r, want) || api.Number(e) != fault {
				t.Fatal(rights, mask, r, e, want, fault)
			}
		}
	}
}

// P26.3: what is restricted is drawn once for each check and mask, and told again from then on, by whichever name.
func TestLookupDraws(t *testing.T) {
	a := over(t, 3, draws(9)...)
	by := a.d.owner(0)
	twin := api.Cap{Port: 1, Object: 7, Rights: 255, Check: own.Check}
	a.enter(t, by, "a", own, 1)
	a.enter(t, by, "b", own, 2)
	a.enter(t, by, "c", own, 1)
	a.enter(t, by, "d", twin, 2)
	for range 2 {
		a.sees(t, by, "a", api.Cap{Port: 9, Object: 2, Rights: 1, Check: 2000})
		a.sees(t, by, "b", api.Cap{Port: 9, Object: 2, Rights: 2, Check: 3000})
		a.sees(t, by, "c", api.Cap{Port: 9, Object: 2, Rights: 1, Check: 2000})
		a.sees(t, by, "d", api.Cap{Port: 1, Object: 7, Rights: 2, Check: 3000})
	}
	if a.o.Left() != 6 {
		t.Fatal(a.o.Left())
	}
}

// P26.3: where there is no draw for one that is to be restricted, ErrTape; nothing changes, and those that need no draw are told.
func TestLookupWithoutDraws(t *testing.T) {
	a := over(t, 3, draws(2)...)
	by := a.d.owner(0)
	a.enter(t, by, "whole", own, 255)
	a.enter(t, by, "one", own, 1)
	a.enter(t, by, "two", own, 2)
	a.enter(t, by, "part", part, 7)
	a.enter(t, by, "no", part, 1)
	a.sees(t, by, "one", api.Cap{Port: 9, Object: 2, Rights: 1, Check: 2000})
	for range 2 {
		a.asks(t, Lookup, by, 0, named("two"), api.ErrTape)
		a.asks(t, Lookup, by, 0, named("no"), api.ErrRights)
		a.sees(t, by, "one", api.Cap{Port: 9, Object: 2, Rights: 1, Check: 2000})
		a.sees(t, by, "whole", own)
		a.sees(t, by, "part", part)
	}
	a.lists(t, by, "whole", "one", "two", "part", "no")
}

// P26.3: a directory's own capability that is handed on with a mask opens it, with the rights of the mask alone, until its owner revokes.
func TestHandedOn(t *testing.T) {
	a := over(t, 3, draws(20)...)
	root := a.d.owner(0)
	sub := a.make(t)
	a.enter(t, sub, "pen", part, 3)
	a.enter(t, root, "sub", sub, 1)
	see := a.asks(t, Lookup, a.mask(t, root, 1), 0, named("sub"), 0).Cap
	a.lists(t, see, "pen")
	a.sees(t, see, "pen", part)
	for _, op := range []uint16{Make, Enter, Replace, Delete} {
		a.asks(t, op, see, 0, data("pen", part), api.ErrRights)
	}
	more := see
	more.Rights |= 2
	a.asks(t, Enter, more, 0, data("pot", part), api.ErrCapability)
	a.asks(t, skeleton.Revoke, sub, 0, nil, 0)
	a.asks(t, List, see, 0, nil, api.ErrCapability)
	if r := a.asks(t, Lookup, root, 0, named("sub"), 0); r.Cap != see {
		t.Fatal(r.Cap)
	}
	a.asks(t, List, see, 0, nil, api.ErrCapability)
}

// P26.3: Destroy has a directory without rows, and nothing opens it any more; names that lead to it stay.
func TestDestroy(t *testing.T) {
	a := fill(t, 40, "is")
	sub := a.make(t)
	see := a.mask(t, sub, 1)
	a.enter(t, sub, "pen", part, 3)
	a.enter(t, a.d.owner(0), "sub", see, 1)
	a.asks(t, skeleton.Destroy, see, 0, nil, api.ErrRights)
	a.lists(t, sub, "pen")
	a.asks(t, skeleton.Destroy, a.mask(t, sub, 8), 0, nil, 0)
	for op := Make; op <= List; op++ {
		a.asks(t, op, sub, 0, data("pen", own), api.ErrCapability)
		a.asks(t, op, see, 0, data("pen", own), api.ErrCapability)
	}
	a.sees(t, a.d.owner(0), "sub", see)
	c := a.make(t)
	if c.Object != 1 {
		t.Fatal(c)
	}
	a.lists(t, c)
	a.asks(t, List, see, 0, nil, api.ErrCapability)
	a.asks(t, skeleton.Destroy, a.d.owner(0), 0, nil, api.ErrState)
	a.lists(t, a.d.owner(0), "is", "sub")
}

// P26.3: what nobody touches ends by Age, and with it its rows; what was touched is there still; the first directory stays.
func TestAge(t *testing.T) {
	a := fill(t, 40, "is")
	for range 3 {
		a.enter(t, a.make(t), "pen", part, 3)
	}
	two := a.d.owner(2)
	for range 20 {
		if a.age(t) != 0 {
			t.Fatal("one ended")
		}
	}
	a.asks(t, skeleton.Touch, a.mask(t, two, 1), 0, nil, 0)
	for range 3 {
		a.age(t)
	}
	if n := a.age(t); n != 2 {
		t.Fatal(n)
	}
	a.lists(t, two, "pen")
	a.lists(t, a.make(t))
	for range 60 {
		a.age(t)
	}
	a.lists(t, a.d.owner(0), "is")
	a.lists(t, a.make(t))
}

// P26.2: no operation of a directory's own has its object live on.
func TestNotTouched(t *testing.T) {
	a := fill(t, 4)
	sub := a.make(t)
	for range 23 {
		a.age(t)
		a.enter(t, sub, "pen", part, 3)
		a.replace(t, sub, "pen", own, 255)
		a.sees(t, sub, "pen", own)
		a.lists(t, sub, "pen")
		a.asks(t, Delete, sub, 0, named("pen"), 0)
	}
	if n := a.age(t); n != 1 {
		t.Fatal(n)
	}
}

// P26.3: Gone by itself: that directory has no rows any more, all others have theirs; of a value that no directory has nothing changes.
func TestGone(t *testing.T) {
	for _, value := range values {
		a := bare(9)
		for k := range 3 {
			for _, n := range []string{"a", "b"} {
				a.do(t, Enter, k, api.Message{Arg: 255, Data: data(n, own)})
			}
		}
		for range 2 {
			a.s.Gone(value)
			delete(a.d.names, value)
			a.look(t, "Gone")
		}
		for k := range 3 {
			r, _ := a.do(t, List, k, api.Message{})
			if (len(r.Data) == 0) != (k == value) {
				t.Fatal(value, k, r)
			}
		}
		a.do(t, Lookup, value, api.Message{Data: named("a")})
		a.do(t, Enter, value, api.Message{Data: data("a", part)})
		a.do(t, Enter, value, api.Message{Data: data("c", part)})
		a.do(t, List, value, api.Message{})
	}
}

// P26.2: a value that no directory has is one without rows: names are not found, the list has none, and what is entered is there.
func TestValues(t *testing.T) {
	a := bare(9)
	for _, value := range values {
		if r, fault := a.do(t, List, value, api.Message{}); fault != 0 || len(r.Data) != 0 {
			t.Fatal(value, r, fault)
		}
		for _, op := range []uint16{Lookup, Replace, Delete} {
			if _, fault := a.do(t, op, value, api.Message{Data: data("a", own)}); fault != api.ErrNotFound {
				t.Fatal(value, op, fault)
			}
		}
		if _, fault := a.do(t, Enter, value, api.Message{Data: data("a", own)}); fault != 0 {
			t.Fatal(value, fault)
		}
		if r, _ := a.do(t, List, value, api.Message{}); !bytes.Equal(r.Data, named("a")) {
			t.Fatal(value, r)
		}
	}
}

// Numbers of directories and of objects are not the same, nor a fixed way apart: objects that others made in the table stand for what they were said to, and a new directory has no rows.
func TestForeign(t *testing.T) {
	a := over(t, 3, draws(40)...)
	far := a.foreign(t, math.MaxInt)
	first := a.make(t)
	ahead := a.foreign(t, 2)
	a.enter(t, far, "far", own, 255)
	a.enter(t, first, "first", own, 255)
	a.enter(t, ahead, "ahead", own, 255)
	second := a.make(t)
	a.lists(t, second)
	a.lists(t, ahead)
	a.lists(t, first, "first")
	a.enter(t, second, "second", part, 255)
	a.lists(t, ahead, "second")
	twin := a.foreign(t, 0)
	a.enter(t, twin, "root", part, 255)
	a.lists(t, a.d.owner(0), "root")
	a.asks(t, skeleton.Destroy, twin, 0, nil, 0)
	a.lists(t, a.d.owner(0))
	a.asks(t, skeleton.Destroy, ahead, 0, nil, 0)
	a.lists(t, second)
	a.enter(t, second, "again", part, 255)
	a.lists(t, far, "far")
	low := a.foreign(t, math.MinInt)
	a.asks(t, Make, low, 0, nil, 0)
	a.lists(t, low)
}

// W4: where several things are wrong, the one that is named first is told.
func TestOrder(t *testing.T) {
	a := fill(t, 9, many(64)...)
	by := a.d.owner(0)
	see := a.mask(t, by, 1)
	odd := see
	odd.Check++
	far := see
	far.Port |= 1 << 48
	for _, x := range []struct {
		op   uint16
		c    api.Cap
		arg  uint64
		b    []byte
		want api.Errno
	}{
		{rest, far, 256, nil, api.ErrCapability},
		{rest, odd, 256, nil, api.ErrCommand},
		{Enter, odd, 256, nil, api.ErrCapability},
		{Enter, see, 256, nil, api.ErrRights},
		{Enter, by, 256, nil, api.ErrArgument},
		{Enter, by, 256, named("n07"), api.ErrExists},
		{Enter, by, 1, named("n07"), api.ErrExists},
		{Enter, by, 256, data("n07", own), api.ErrExists},
		{Enter, by, 256, named("new"), api.ErrArgument},
		{Enter, by, 256, data("new", own), api.ErrArgument},
		{Enter, by, 1, append(data("new", own), 0), api.ErrArgument},
		{Enter, by, 1, data("new", own), api.ErrFull},
		{Replace, by, 256, named("new"), api.ErrNotFound},
		{Replace, by, 1, named("new"), api.ErrNotFound},
		{Replace, by, 256, data("new", own), api.ErrNotFound},
		{Replace, by, 256, named("n07"), api.ErrArgument},
		{Replace, by, 256, data("n07", own), api.ErrArgument},
		{Replace, by, 1, named("n07"), api.ErrArgument},
		{Replace, see, 256, named("new"), api.ErrRights},
		{Delete, see, 0, nil, api.ErrRights},
		{Lookup, a.mask(t, by, 254), 0, nil, api.ErrRights},
	} {
		a.asks(t, x.op, x.c, x.arg, x.b, x.want)
	}
	a.lists(t, by, many(64)...)
	a.sees(t, by, "n07", own)
}

// W6: what is entered is a copy, what is listed is new memory, also where there is room behind the data's length.
func TestMemory(t *testing.T) {
	s := bare(3).s
	whole := append(data("abcd", own), "room"...)
	held := bytes.Clone(whole)
	if r, e := s.Do(Enter, 0, api.Message{Arg: 255, Data: whole[:22]}); e != nil || len(r.Data) != 0 || !bytes.Equal(whole, held) {
		t.Fatal(r, e, whole)
	}
	clear(whole)
	again := append(data("efg", own), "room"...)
	s.Do(Enter, 0, api.Message{Arg: 255, Data: again[:21]})
	s.Do(Replace, 0, api.Message{Arg: 255, Data: again[:21]})
	clear(again)
	one, _ := s.Do(List, 0, api.Message{Data: make([]byte, 40)})
	two, _ := s.Do(List, 0, api.Message{})
	want := "\x00\x04abcd\x00\x03efg"
	if string(one.Data) != want || string(two.Data) != want {
		t.Fatal(string(one.Data), string(two.Data))
	}
	clear(one.Data)
	_ = append(one.Data[:2], "xx"...)
	three, _ := s.Do(List, 0, api.Message{})
	if string(two.Data) != want || string(three.Data) != want {
		t.Fatal(string(two.Data), string(three.Data))
	}
	if r, e := s.Do(Lookup, 0, api.Message{Data: named("abcd")}); e != nil || r.Cap != own {
		t.Fatal(r, e)
	}
}

// W1: a zero Server, which Of did not make, has no objects and no draws, and does not panic.
func TestZero(t *testing.T) {
	for _, value := range values {
		s := &Server{}
		s.Gone(value)
		for _, op := range ops {
			for _, b := range [][]byte{nil, named("is"), data("is", own)} {
				m := api.Message{Arg: 1, Data: b}
				r, e := s.Do(op, value, m)
				if e != nil && !reflect.DeepEqual(r, skeleton.Result{}) || op == Make && api.Number(e) != api.ErrTape {
					t.Fatal(op, value, b, r, e)
				}
			}
		}
		s.Do(Enter, value, api.Message{Arg: 1, Data: data("new", own)})
		if r, e := s.Do(Lookup, value, api.Message{Data: named("new")}); !reflect.DeepEqual(r, skeleton.Result{}) || api.Number(e) != api.ErrTape {
			t.Fatal(value, r, e)
		}
		s.Gone(value)
		if r, e := s.Do(List, value, api.Message{}); e != nil || len(r.Data) != 0 {
			t.Fatal(value, r, e)
		}
	}
}

// W1: any number, value, operation and data whatever: nothing panics, and beside an error there is nothing.
func TestAny(t *testing.T) {
	a := bare(60)
	draw := strew(99)
	for range 6000 {
		m := api.Message{To: wide(draw), Reply: wide(draw), Op: uint16(wide(draw)), Cap: api.Cap{Port: wide(draw), Check: wide(draw)}, Arg: wide(draw) >> draw(64)}
		b := make([]byte, draw(60))
		for k := range b {
			b[k] = byte(wide(draw))
		}
		if len(b) > 1 && draw(5) > 0 {
			b[0], b[1] = 0, byte(len(b)-2-16*draw(2))
		}
		m.Data = b
		op := Make + uint16(draw(6))
		if draw(9) == 0 {
			op = uint16(wide(draw))
		}
		value := values[draw(len(values))]
		if draw(2) == 0 {
			value = 0
		}
		a.do(t, op, value, m)
	}
	if len(a.d.names[0]) < 30 {
		t.Fatal(len(a.d.names[0]))
	}
}

// wide is a number of any bits, of which often few stand.
func wide(draw func(n int) int) uint64 {
	n := uint64(draw(1<<31))<<40 ^ uint64(draw(1<<31))<<20 ^ uint64(draw(1<<31))
	return n >> draw(64)
}

// P26.1 to P26.3: directories' life, by hand: made within one another, entered, handed on with fewer rights, replaced, deleted, revoked, destroyed, aged and made anew.
func TestMixed(t *testing.T) {
	a := over(t, 3, draws(40)...)
	root := a.d.owner(0)
	home := a.asks(t, Make, a.mask(t, root, 4), 0, nil, 0).Cap
	a.enter(t, root, "home", home, 255)
	put := a.mask(t, home, 2)
	a.enter(t, put, "pen", own, 1)
	a.asks(t, Lookup, put, 0, named("pen"), api.ErrRights)
	a.asks(t, List, put, 0, nil, api.ErrRights)
	found := a.asks(t, Lookup, root, 0, named("home"), 0).Cap
	pen := a.asks(t, Lookup, found, 0, named("pen"), 0).Cap
	if pen.Rights != 1 || pen.Port != 9 || pen.Object != 2 {
		t.Fatal(pen)
	}
	a.enter(t, root, "pen", pen, 1)
	a.sees(t, root, "pen", pen)
	a.replace(t, root, "pen", pen, 0)
	a.asks(t, Lookup, root, 0, named("pen"), api.ErrRights)
	a.lists(t, root, "home", "pen")
	a.asks(t, Delete, put, 0, named("pen"), api.ErrRights)
	a.asks(t, Delete, a.mask(t, home, 8), 0, named("pen"), 0)
	a.lists(t, home)
	newer := a.asks(t, skeleton.Revoke, home, 0, nil, 0).Cap
	a.asks(t, Enter, put, 1, data("pot", own), api.ErrCapability)
	a.enter(t, newer, "pot", own, 1)
	a.sees(t, root, "home", home)
	a.replace(t, root, "home", newer, 3)
	inner := a.asks(t, Lookup, root, 0, named("home"), 0).Cap
	a.lists(t, inner, "pot")
	for range 12 {
		a.age(t)
	}
	a.asks(t, skeleton.Touch, inner, 0, nil, 0)
	for range 12 {
		a.age(t)
	}
	a.lists(t, inner, "pot")
	for range 12 {
		a.age(t)
	}
	a.asks(t, List, inner, 0, nil, api.ErrCapability)
	next := a.make(t)
	a.lists(t, next)
	a.lists(t, root, "home", "pen")
}

// latest is the place of the capability that was told last.
const latest = math.MaxInt

// steps is requests to directories, by the root, by the capability that was told first, and by the latest, and rounds.
func steps(t *testing.T) []func(a pair, told *[]api.Cap) {
	ask := func(op uint16, which int, arg uint64, name string, c *api.Cap) func(a pair, told *[]api.Cap) {
		return func(a pair, told *[]api.Cap) {
			last := len(*told) - 1
			m := api.Message{To: 21, Reply: 22, ID: 23, Op: op, Cap: (*told)[min(which, last)], Arg: arg, Data: named(name)}
			if c != nil {
				m.Data = data(name, *c)
			}
			if r := a.serve(t, m); r.Cap != (api.Cap{}) {
				*told = append(*told, r.Cap)
			}
		}
	}
	return []func(a pair, told *[]api.Cap){
		ask(Make, 0, 0, "", nil),
		ask(Enter, 0, 1, "a", &own),
		ask(Enter, latest, 255, "b", &own),
		ask(Enter, 1, 3, "a", &part),
		ask(Replace, 0, 2, "a", &own),
		ask(Replace, latest, 1, "b", &part),
		ask(Lookup, 0, 0, "a", nil),
		ask(Lookup, latest, 0, "b", nil),
		ask(Delete, 0, 0, "a", nil),
		ask(Delete, 1, 0, "b", nil),
		ask(skeleton.Destroy, 1, 0, "", nil),
		ask(skeleton.Restrict, latest, 11, "", nil),
		ask(skeleton.Revoke, 1, 0, "", nil),
		func(a pair, told *[]api.Cap) {
			for range 12 {
				a.age(t)
			}
		},
	}
}

// P26.1 to P26.3: each run of four of the steps, with few draws, and with enough.
func TestRuns(t *testing.T) {
	all := steps(t)
	const length = 4
	runs := 1
	for range length {
		runs *= len(all)
	}
	for r := range runs {
		a := over(t, 3, draws(2+r%7)...)
		told := []api.Cap{a.d.owner(0)}
		for rest, k := r, 0; k < length; rest, k = rest/len(all), k+1 {
			all[rest%len(all)](a, &told)
		}
		for _, c := range told {
			a.serve(t, api.Message{Op: Lookup, Cap: c, Data: named("a")})
		}
	}
}

// strew is a source of numbers below n.
func strew(seed uint64) func(n int) int {
	state := seed + 26
	return func(n int) int {
		state = state*6364136223846793005 + 1442695040888963407
		return int(state>>33) % n
	}
}

// turned is a capability with something of it turned, or nothing.
func turned(c api.Cap, draw func(n int) int) api.Cap {
	switch draw(50) {
	case 0:
		c.Port ^= 1 << draw(64)
	case 1:
		c.Object ^= 1 << draw(32)
	case 2:
		c.Rights ^= 1 << draw(8)
	case 3:
		c.Check ^= 1 << draw(64)
	case 4:
		c.Object = uint32(draw(8))
	}
	return c
}

// mask is one of any bits, often of all or of few, and sometimes too great.
func mask(draw func(n int) int) uint64 {
	switch draw(12) {
	case 0:
		return beyond[draw(len(beyond))]
	case 1, 2, 3:
		return 255
	case 4, 5:
		return 1 << draw(8)
	}
	return uint64(draw(256) | draw(256))
}

// strewn is a request of any operation, about some of so many names; told is all capabilities that there are.
func strewn(draw func(n int) int, names int, told []api.Cap) api.Message {
	known := []uint16{skeleton.Info, skeleton.Touch, skeleton.Restrict, skeleton.Revoke, skeleton.Destroy, Make, Lookup, Lookup, Lookup, Enter, Enter, Enter, Enter, Enter, Enter, Replace, Replace, Delete, List}
	m := api.Message{To: uint64(draw(1 << 30)), Reply: uint64(draw(1 << 30)), ID: uint32(draw(1 << 30)), Op: known[draw(len(known))], Status: uint16(draw(1 << 16))}
	if draw(15) == 0 {
		m.Op = ops[draw(len(ops))]
	}
	m.Arg = mask(draw)
	m.Cap = turned(told[max(draw(len(told)), draw(len(told)))], draw)
	if draw(3) == 0 {
		m.Cap = turned(told[0], draw)
	}
	inside := turned(told[draw(len(told))], draw)
	if draw(2) == 0 {
		inside = api.Cap{Port: uint64(draw(9)), Object: uint32(draw(9)), Rights: uint8(mask(draw)), Check: uint64(draw(99))}
	}
	m.Data = named(many(names)[draw(names)])
	if m.Op == Enter || m.Op == Replace || draw(9) == 0 {
		m.Data = append(m.Data, sealed(inside)...)
	}
	switch draw(30) {
	case 0:
		m.Data = m.Data[:draw(len(m.Data))]
	case 1:
		m.Data = append(m.Data, byte(draw(256)))
	case 2:
		m.Data[1] = byte(draw(40))
	}
	return m
}

// P26.1 to P26.3: long strewn runs of all operations, by capabilities that were told at any time, whole and turned, with rounds between them.
func TestStrewn(t *testing.T) {
	seen := map[uint16]map[uint16]int{}
	aged := 0
	for seed := range uint64(200) {
		draw := strew(seed)
		a := over(t, uint64(draw(1<<20)), draws(3+draw(5+draw(300)))...)
		told := []api.Cap{a.d.owner(0)}
		ages, names, full := draw(9), 1+draw(99), draw(5) == 0
		for range 250 {
			if draw(30) < ages {
				aged += a.age(t)
				continue
			}
			m := strewn(draw, names, told)
			if full && m.Op != Delete && draw(3) > 0 {
				m.Op, m.Cap, m.Data = Enter, told[0], data(many(99)[draw(99)], m.Cap)
			}
			r := a.serve(t, m)
			if seen[m.Op] == nil {
				seen[m.Op] = map[uint16]int{}
			}
			seen[m.Op][r.Status]++
			if r.Cap != (api.Cap{}) && r.Cap.Port == a.d.port {
				told = append(told, r.Cap)
			}
		}
	}
	often(t, seen)
	if aged < 50 {
		t.Errorf("%d grew old alone", aged)
	}
}

// often holds that strewn runs met each thing that is told of an operation.
func often(t *testing.T, seen map[uint16]map[uint16]int) {
	t.Helper()
	always := []api.Errno{0, api.ErrCapability, api.ErrTape}
	for op, more := range map[uint16][]api.Errno{
		skeleton.Info:    nil,
		skeleton.Destroy: {api.ErrRights, api.ErrState},
		Make:             {api.ErrRights},
		Lookup:           {api.ErrRights, api.ErrArgument, api.ErrNotFound},
		Enter:            {api.ErrRights, api.ErrArgument, api.ErrExists, api.ErrFull},
		Replace:          {api.ErrRights, api.ErrArgument, api.ErrNotFound},
		Delete:           {api.ErrRights, api.ErrArgument, api.ErrNotFound},
		List:             {api.ErrRights},
	} {
		for _, fault := range append(slices.Clone(always), more...) {
			if n := seen[op][uint16(fault)]; n < 5 {
				t.Errorf("operation %d: %v came %d times alone", op, fault, n)
			}
		}
	}
}
