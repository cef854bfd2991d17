package frag

import (
	"bytes"
	"errors"
	"math"
	"slices"
	"testing"

	"sigillum/api"
)

// The edges of numbers that may be anything.
var (
	nodes = []int{0, 1, 2, -1, -2, 255, 256, 1 << 32, math.MinInt, math.MaxInt}
	ids   = []uint64{0, 1, 2, 255, 256, 1 << 32, 1 << 63, math.MaxUint64 - 1, math.MaxUint64}
)

// wrong are sizes that packets may not have; cut to 16 or 32 bits, or times 256, some of them would do.
var wrong = []int{0, -1, -2, -32768, 32769, 32770, 65535, 65536, 65537, 1<<32 + 1, 1 << 55, 1 << 56, 1<<56 + 1, math.MinInt, math.MinInt + 1, math.MaxInt - 1, math.MaxInt}

// text is n bytes, of which no two pieces that are looked at are alike.
func text(n int) []byte {
	b := make([]byte, n)
	for k := range b {
		b[k] = byte(k) ^ byte(k>>8)*7 ^ byte(k>>16)*31
	}
	return b
}

// model cuts bytes one by one: a packet is closed when the next byte finds it full.
func model(b []byte, from, to int, id uint64, size int) ([]api.Packet, error) {
	if size <= 0 || size >= 32769 {
		return nil, api.ErrArgument
	}
	pieces := [][]byte{nil}
	for _, x := range b {
		last := len(pieces) - 1
		if len(pieces[last]) == size {
			pieces = append(pieces, nil)
			last++
		}
		pieces[last] = append(pieces[last], x)
	}
	if len(pieces) >= 257 {
		return nil, api.ErrBounds
	}
	var ps []api.Packet
	for k, piece := range pieces {
		ps = append(ps, api.Packet{From: from, To: to, ID: id, Index: k, Count: len(pieces), Data: piece})
	}
	return ps, nil
}

// like tells whether an error is the one that is asked for, or none where none is.
func like(err, want error) bool {
	if want == nil {
		return err == nil
	}
	return errors.Is(err, want) && api.Number(err) == api.Number(want)
}

// alike tells whether two packets are, data of no bytes being nil or not.
func alike(p, q api.Packet) bool {
	return head(p) == head(q) && bytes.Equal(p.Data, q.Data)
}

// heading is a packet without its data.
type heading struct {
	from, to     int
	id           uint64
	index, count int
}

func head(p api.Packet) heading { return heading{p.From, p.To, p.ID, p.Index, p.Count} }

// split cuts bytes, and holds the packets against the model's; the bytes must stay as they were.
func split(t *testing.T, b []byte, from, to int, id uint64, size int) []api.Packet {
	t.Helper()
	was := bytes.Clone(b)
	got, err := Split(b, from, to, id, size)
	want, fault := model(b, from, to, id, size)
	if !like(err, fault) || !slices.EqualFunc(got, want, alike) {
		t.Fatalf("Split of %d bytes, %d, %d, %d, size %d: %d packets, %v; want %d, %v", len(b), from, to, id, size, len(got), err, len(want), fault)
	}
	if !bytes.Equal(b, was) {
		t.Fatalf("Split of %d bytes, size %d, changed them", len(b), size)
	}
	return got
}

// joined has Join answer just these bytes, and true.
func joined(t *testing.T, ps []api.Packet, want []byte) []byte {
	t.Helper()
	b, ok := Join(ps)
	if !ok || !bytes.Equal(b, want) {
		t.Fatalf("Join of %d packets: %d bytes, %v; want %d", len(ps), len(b), ok, len(want))
	}
	return b
}

// apart has Join answer nothing, and false.
func apart(t *testing.T, what string, ps []api.Packet) {
	t.Helper()
	if b, ok := Join(ps); ok || len(b) != 0 {
		t.Errorf("Join of %s: %d bytes, %v", what, len(b), ok)
	}
}

// may has May answer this of a packet.
func may(t *testing.T, index, count, data int, want bool) {
	t.Helper()
	if got := May(api.Packet{Index: index, Count: count, Data: make([]byte, data)}); got != want {
		t.Errorf("May of index %d, count %d, %d bytes: %v", index, count, data, got)
	}
}

// copied is a list of packets with memory of its own.
func copied(ps []api.Packet) []api.Packet {
	out := slices.Clone(ps)
	for k := range out {
		out[k].Data = bytes.Clone(out[k].Data)
	}
	return out
}

// scribble writes into bytes and into the room behind them.
func scribble(b []byte) {
	all := b[:cap(b)]
	for k := range all {
		all[k] ^= 0xa5
	}
}

// The limits are those that the document names.
func TestLimits(t *testing.T) {
	if api.MaxPiece != 32768 || api.MaxPieces != 256 {
		t.Fatalf("MaxPiece %d, MaxPieces %d", api.MaxPiece, api.MaxPieces)
	}
}

// P15.1, P15.2: the chapter's example.
func TestExample(t *testing.T) {
	ps, err := Split([]byte("abc"), 4, 5, 6, 2)
	if err != nil || len(ps) != 2 {
		t.Fatal(ps, err)
	}
	if string(ps[0].Data) != "ab" || string(ps[1].Data) != "c" {
		t.Errorf("%q, %q", ps[0].Data, ps[1].Data)
	}
	if head(ps[0]) != (heading{4, 5, 6, 0, 2}) || head(ps[1]) != (heading{4, 5, 6, 1, 2}) {
		t.Error(ps)
	}
	joined(t, ps, []byte("abc"))
	apart(t, "the second one", ps[1:])
}

// P15.1, P15.2: each few bytes by each small size, and Join of the packets.
func TestSmall(t *testing.T) {
	for n := range 70 {
		for size := 1; size < 75; size++ {
			b := text(n)
			joined(t, split(t, b, 1, 2, 3, size), b)
		}
	}
}

// P15.1: no bytes, nil or not, are one packet of no data, by each size that may be.
func TestNone(t *testing.T) {
	for _, b := range [][]byte{nil, {}, text(9)[:0], text(9)[9:]} {
		for _, size := range []int{1, 2, 255, 256, 257, 32767, 32768} {
			ps := split(t, b, 7, -8, 9, size)
			if len(ps) != 1 || len(ps[0].Data) != 0 || head(ps[0]) != (heading{7, -8, 9, 0, 1}) {
				t.Errorf("size %d: %v", size, ps)
			}
			joined(t, ps, nil)
		}
	}
}

// P15.1, P15.2: bytes of a multiple of the size, one less and one more; only where the last packet is not full it has fewer bytes, and it is never without any.
func TestLast(t *testing.T) {
	for _, size := range []int{1, 2, 3, 7, 64, 255, 256, 257, 4096, 32767, 32768} {
		for _, times := range []int{1, 2, 3, 5} {
			for _, more := range []int{-1, 0, 1} {
				n := size*times + more
				b := text(n)
				ps := split(t, b, 3, 4, 5, size)
				joined(t, ps, b)
				if n == 0 {
					continue
				}
				count, last := times, size
				if more < 0 && size > 1 {
					last = size - 1
				} else if more < 0 {
					count--
				} else if more > 0 {
					count, last = times+1, 1
				}
				if len(ps) != count || len(ps[count-1].Data) != last {
					t.Errorf("%d bytes by %d: %d packets, the last of %d", n, size, len(ps), len(ps[len(ps)-1].Data))
				}
			}
		}
	}
}

// P15.1, P15.2: 255 and 256 packets, full or with one byte in the last, can be; 257 can't: nothing and ErrBounds.
func TestMany(t *testing.T) {
	for _, size := range []int{1, 2, 3, 100, 32767, 32768} {
		for _, count := range []int{255, 256} {
			for _, n := range []int{(count-1)*size + 1, count*size - 1, count * size} {
				b := text(n)
				want := (n + size - 1) / size
				ps := split(t, b, 1, 2, 3, size)
				if len(ps) != want {
					t.Errorf("%d bytes by %d: %d packets", n, size, len(ps))
				}
				for k, p := range ps {
					if p.Index != k || p.Count != want || !May(p) {
						t.Errorf("%d bytes by %d: packet %d is %v", n, size, k, head(p))
					}
				}
				joined(t, ps, b)
			}
		}
		for _, n := range []int{256*size + 1, 257 * size, 257*size + 1, 512 * size} {
			if ps, err := Split(text(n), 1, 2, 3, size); len(ps) != 0 || !like(err, api.ErrBounds) {
				t.Errorf("%d bytes by %d: %d packets, %v", n, size, len(ps), err)
			}
		}
	}
}

// P15.1: nothing and ErrArgument of a size that is not from 1 to 32768, whatever there is to cut: it is told ahead of ErrBounds.
func TestWrongSize(t *testing.T) {
	for _, size := range wrong {
		for _, n := range []int{0, 1, 256, 257, 32768, 32769, 256 * 32768, 256*32768 + 1, 257 * 32769} {
			if ps, err := Split(make([]byte, n), 1, 2, 3, size); len(ps) != 0 || !like(err, api.ErrArgument) {
				t.Errorf("%d bytes by %d: %d packets, %v", n, size, len(ps), err)
			}
		}
		if ps, err := Split(nil, 1, 2, 3, size); len(ps) != 0 || !like(err, api.ErrArgument) {
			t.Errorf("nil by %d: %d packets, %v", size, len(ps), err)
		}
	}
}

// P15.1: each size from 1 to 32768 can be.
func TestSizes(t *testing.T) {
	b := text(2 * 32768)
	for size := 1; size <= 32768; size++ {
		n := min(2*size, len(b))
		ps, err := Split(b[:n], 0, 0, 0, size)
		if err != nil || len(ps) != 2 || len(ps[0].Data) != size || !bytes.Equal(ps[1].Data, b[size:n]) {
			t.Fatalf("size %d: %d packets, %v", size, len(ps), err)
		}
	}
}

// P15.1, P15.2: From, To and ID may be any numbers, and are each packet's.
func TestAnyNumbers(t *testing.T) {
	b := text(5)
	for _, from := range nodes {
		for _, to := range nodes {
			for _, id := range ids {
				ps := split(t, b, from, to, id, 2)
				for k, p := range ps {
					if head(p) != (heading{from, to, id, k, 3}) || !May(p) {
						t.Errorf("%v, want %d, %d, %d", head(p), from, to, id)
					}
				}
				joined(t, ps, b)
				joined(t, split(t, nil, from, to, id, 2), nil)
			}
		}
	}
}

// P15.2: each Count and Index from below 0 to above 256, with data of no bytes, of 32768 and of more.
func TestMay(t *testing.T) {
	for count := -3; count < 261; count++ {
		for index := -3; index < 261; index++ {
			right := false
			for k := range min(count, 256) {
				right = right || count < 257 && k == index
			}
			for _, data := range []int{0, 1, 32767, 32768} {
				may(t, index, count, data, right)
			}
			may(t, index, count, 32769, false)
		}
	}
}

// P15.2: the edges of May, and Counts and Indexes far off.
func TestMayEdges(t *testing.T) {
	may(t, 0, 1, 0, true)
	may(t, 0, 1, 32768, true)
	may(t, 0, 1, 32769, false)
	may(t, 0, 1, 65536, false)
	may(t, 0, 1, 65537, false)
	may(t, 1, 1, 0, false)
	may(t, 0, 256, 32768, true)
	may(t, 255, 256, 32768, true)
	may(t, 256, 256, 0, false)
	may(t, 0, 257, 0, false)
	may(t, 256, 257, 0, false)
	may(t, 0, 0, 0, false)
	may(t, -1, 0, 0, false)
	may(t, -1, -1, 0, false)
	may(t, -2, -1, 0, false)
	may(t, -1, 1, 0, false)
	may(t, -1, 256, 0, false)
	for _, far := range []int{1 << 16, 1<<16 + 1, 1 << 32, 1<<32 + 1, math.MinInt, math.MinInt + 1, math.MaxInt - 1, math.MaxInt} {
		may(t, 0, far, 0, false)
		may(t, far, 1, 0, false)
		may(t, far, 256, 0, false)
		may(t, far, far, 0, false)
		may(t, far-1, far, 0, false)
	}
	if May(api.Packet{}) {
		t.Error("May of a zero packet")
	}
}

// P15.2: From, To and ID, nil data, and room behind the data are nothing to May.
func TestMayOthers(t *testing.T) {
	long := make([]byte, 40000)
	for _, node := range nodes {
		for _, id := range ids {
			for _, data := range [][]byte{nil, {}, long[:0], long[:32768]} {
				if p := (api.Packet{From: node, To: -node, ID: id, Index: 1, Count: 2, Data: data}); !May(p) {
					t.Errorf("not %v of %d bytes", head(p), len(data))
				}
				if p := (api.Packet{From: node, To: -node, ID: id, Index: 2, Count: 2, Data: data}); May(p) {
					t.Errorf("%v of %d bytes", head(p), len(data))
				}
			}
			if p := (api.Packet{From: node, ID: id, Index: 1, Count: 2, Data: long[:32769]}); May(p) {
				t.Errorf("%v of %d bytes", head(p), len(p.Data))
			}
		}
	}
}

// P15.2: Join of none is nothing and false; of a single packet with no data it is no bytes, and true.
func TestJoinFew(t *testing.T) {
	apart(t, "nil", nil)
	apart(t, "none", []api.Packet{})
	apart(t, "none of two", make([]api.Packet, 2)[:0])
	apart(t, "a zero packet", make([]api.Packet, 1))
	joined(t, []api.Packet{{Count: 1}}, nil)
	joined(t, []api.Packet{{Count: 1, Data: []byte{}}}, nil)
	joined(t, []api.Packet{{From: -1, To: 9, ID: 3, Count: 1, Data: []byte("a")}}, []byte("a"))
	apart(t, "a second one alone", []api.Packet{{Index: 1, Count: 2}})
	apart(t, "a first one of two alone", []api.Packet{{Count: 2}})
	apart(t, "one of none", []api.Packet{{Count: 0}})
	apart(t, "one below the first", []api.Packet{{Index: -1, Count: 1}})
	apart(t, "a long one", []api.Packet{{Count: 1, Data: make([]byte, 32769)}})
	joined(t, []api.Packet{{Count: 1, Data: text(32768)}}, text(32768))
}

// P15.2: data of packets need not be of one size: some may have none, and the last may have the most.
func TestJoinUneven(t *testing.T) {
	lens := []int{0, 1, 5, 32768}
	for run := range 4 * 4 * 4 {
		var want []byte
		var ps []api.Packet
		rest := run
		for k := range 3 {
			data := text(lens[rest%4] + k)[k:]
			rest /= 4
			want = append(want, data...)
			ps = append(ps, api.Packet{From: 1, To: 2, ID: 3, Index: k, Count: 3, Data: data})
		}
		joined(t, ps, want)
	}
}

// P15.2: packets of one message in any other order than theirs are nothing and false.
func TestJoinOrder(t *testing.T) {
	for n := 2; n <= 5; n++ {
		b := text(3*n - 1)
		ps := split(t, b, 1, 2, 3, 3)
		orders := 0
		permute(slices.Clone(ps), 0, func(qs []api.Packet) {
			orders++
			if slices.EqualFunc(qs, ps, alike) {
				joined(t, qs, b)
			} else {
				apart(t, "another order", qs)
			}
		})
		if orders < 2 {
			t.Errorf("%d orders of %d", orders, n)
		}
	}
	ps := split(t, text(256), 1, 2, 3, 1)
	for _, k := range []int{0, 1, 127, 254} {
		qs := slices.Clone(ps)
		qs[k], qs[k+1] = qs[k+1], qs[k]
		apart(t, "two that changed places", qs)
	}
	slices.Reverse(ps)
	apart(t, "all from the last on", ps)
}

// permute tells each order of the packets from one on.
func permute(ps []api.Packet, from int, tell func([]api.Packet)) {
	if from == len(ps) {
		tell(ps)
		return
	}
	for k := from; k < len(ps); k++ {
		ps[from], ps[k] = ps[k], ps[from]
		permute(ps, from+1, tell)
		ps[from], ps[k] = ps[k], ps[from]
	}
}

// P15.2: with any one packet away, there twice, or laid at another place, it is nothing and false.
func TestJoinNotAll(t *testing.T) {
	for _, n := range []int{1, 2, 3, 4, 7, 255, 256} {
		ps := split(t, text(2*n), 1, 2, 3, 2)
		for k := range ps {
			apart(t, "all but one", slices.Delete(slices.Clone(ps), k, k+1))
			apart(t, "one twice", slices.Insert(slices.Clone(ps), k, ps[k]))
			apart(t, "one twice, at the end", append(slices.Clone(ps), ps[k]))
			if k > 0 {
				apart(t, "the first ones", ps[:k])
				apart(t, "the last ones", ps[k:])
				qs := slices.Clone(ps)
				qs[k] = ps[k-1]
				apart(t, "one twice, and one not", qs)
				qs[k], qs[k-1] = ps[k], ps[k]
				apart(t, "one twice, and the one ahead not", qs)
			}
		}
	}
}

// P15.2: one more than Count says, even with the next Index, is nothing and false; so are packets that are fewer than all of them say, or more.
func TestJoinCount(t *testing.T) {
	for _, n := range []int{1, 2, 3, 255, 256} {
		ps := split(t, text(n), 1, 2, 3, 1)
		more := ps[n-1]
		more.Index++
		apart(t, "one more", append(slices.Clone(ps), more))
		more.Count++
		apart(t, "one more, with a count of its own", append(slices.Clone(ps), more))
		for _, count := range []int{math.MinInt, -1, 0, 1, n - 1, n + 1, 256, 257, math.MaxInt} {
			if count == n {
				continue
			}
			qs := slices.Clone(ps)
			for k := range qs {
				qs[k].Count = count
			}
			apart(t, "a count that all have wrong", qs)
		}
	}
	for _, n := range []int{257, 258, 512} {
		ps := make([]api.Packet, n)
		for k := range ps {
			ps[k] = api.Packet{Index: k, Count: n}
		}
		apart(t, "more than may be", ps)
	}
}

// P15.2: where any one packet differs in Count, Index, ID, From or To, or may not be, it is nothing and false.
func TestJoinDiffers(t *testing.T) {
	changes := []func(*api.Packet){
		func(p *api.Packet) { p.Count++ },
		func(p *api.Packet) { p.Count-- },
		func(p *api.Packet) { p.Count = 256 },
		func(p *api.Packet) { p.Count = 257 },
		func(p *api.Packet) { p.Count = 0 },
		func(p *api.Packet) { p.Count = -p.Count },
		func(p *api.Packet) { p.Count = math.MinInt },
		func(p *api.Packet) { p.Count = math.MaxInt },
		func(p *api.Packet) { p.Index++ },
		func(p *api.Packet) { p.Index-- },
		func(p *api.Packet) { p.Index += 1 << 32 },
		func(p *api.Packet) { p.Index = math.MinInt },
		func(p *api.Packet) { p.Index = math.MaxInt },
		func(p *api.Packet) { p.ID++ },
		func(p *api.Packet) { p.ID-- },
		func(p *api.Packet) { p.ID ^= 1 << 32 },
		func(p *api.Packet) { p.ID ^= 1 << 63 },
		func(p *api.Packet) { p.From++ },
		func(p *api.Packet) { p.From = -p.From },
		func(p *api.Packet) { p.From ^= 1 << 32 },
		func(p *api.Packet) { p.From ^= math.MinInt },
		func(p *api.Packet) { p.To++ },
		func(p *api.Packet) { p.To = -p.To },
		func(p *api.Packet) { p.To ^= 1 << 32 },
		func(p *api.Packet) { p.To ^= math.MinInt },
		func(p *api.Packet) { p.From, p.To = p.To, p.From },
		func(p *api.Packet) { p.Data = make([]byte, 32769) },
	}
	for _, n := range []int{2, 3, 4, 9, 255} {
		b := text(n)
		ps := split(t, b, 5, 6, 7, 1)
		for which, change := range changes {
			for k := range ps {
				qs := slices.Clone(ps)
				change(&qs[k])
				if got, ok := Join(qs); ok || len(got) != 0 {
					t.Errorf("%d packets, change %d of %d: %d bytes, %v", n, which, k, len(got), ok)
				}
			}
		}
		joined(t, ps, b)
	}
}

// P15.2: each list of up to three packets out of a hundred, held against their headings.
func TestJoinEach(t *testing.T) {
	var all []api.Packet
	for _, index := range []int{-1, 0, 1, 2, 3} {
		for _, count := range []int{0, 1, 2, 3, 4} {
			for _, who := range []heading{{}, {from: 1}, {to: 1}, {id: 1}} {
				data := []byte{byte(index), byte(count), byte(who.from + 2*who.to)}
				all = append(all, api.Packet{From: who.from, To: who.to, ID: who.id, Index: index, Count: count, Data: data})
			}
		}
	}
	whole := 0
	check := func(ps ...api.Packet) {
		var want []byte
		right := true
		for k, p := range ps {
			first := head(ps[0])
			first.index, first.count = k, len(ps)
			right = right && head(p) == first
			want = append(want, p.Data...)
		}
		if right {
			whole++
		} else {
			want = nil
		}
		if got, ok := Join(ps); ok != right || !bytes.Equal(got, want) {
			t.Errorf("Join of %v: %v, %v", ps, got, ok)
		}
	}
	for _, p := range all {
		check(p)
		for _, q := range all {
			check(p, q)
			for _, r := range all {
				check(p, q, r)
			}
		}
	}
	if whole != 12 {
		t.Errorf("%d whole ones", whole)
	}
}

// P15.1, W6: who later writes into the bytes does not change the packets.
func TestBytesWritten(t *testing.T) {
	for _, n := range []int{0, 1, 2, 3, 4, 9, 256} {
		for _, size := range []int{1, 2, 3, 256, 32768} {
			room := text(n + 20)
			b := room[:n]
			ps := split(t, b, 1, 2, 3, size)
			was := copied(ps)
			scribble(b)
			if !slices.EqualFunc(ps, was, alike) {
				t.Errorf("%d bytes by %d: the packets changed with the bytes", n, size)
			}
		}
	}
}

// P15.1, W6: who writes into a packet's data, or behind it, changes neither the bytes, nor any other packet, nor what Split answers next.
func TestPacketsWritten(t *testing.T) {
	for _, n := range []int{0, 1, 2, 3, 4, 9, 256} {
		for _, size := range []int{1, 2, 3, 256, 32768} {
			room := text(n + 20)
			was := bytes.Clone(room)
			ps := split(t, room[:n], 1, 2, 3, size)
			others := split(t, room[:n], 1, 2, 3, size)
			for k := range ps {
				right := copied(ps)
				scribble(ps[k].Data)
				right[k].Data = bytes.Clone(ps[k].Data)
				if !slices.EqualFunc(ps, right, alike) {
					t.Errorf("%d bytes by %d: packet %d is another's too", n, size, k)
				}
				_ = append(ps[k].Data, 0xa5)
				if !slices.EqualFunc(ps, right, alike) {
					t.Errorf("%d bytes by %d: what is behind packet %d is another's", n, size, k)
				}
				ps[k].Index, ps[k].Count = -5, -6
			}
			if !bytes.Equal(room, was) {
				t.Errorf("%d bytes by %d: they changed with the packets", n, size)
			}
			joined(t, others, room[:n])
			split(t, room[:n], 1, 2, 3, size)
		}
	}
}

// P15.2, W6: Join changes no packet, and who later writes into the packets does not change what it answered, nor the other way round.
func TestJoinWritten(t *testing.T) {
	for _, n := range []int{1, 2, 3, 9, 256} {
		for _, size := range []int{1, 2, 3, 256, 32768} {
			b := text(n)
			ps := split(t, b, 1, 2, 3, size)
			was := copied(ps)
			got := joined(t, ps, b)
			again := joined(t, ps, b)
			if !slices.EqualFunc(ps, was, alike) {
				t.Errorf("%d bytes by %d: Join changed the packets", n, size)
			}
			scribble(got)
			_ = append(got, 1)
			if !slices.EqualFunc(ps, was, alike) || !bytes.Equal(again, b) {
				t.Errorf("%d bytes by %d: what Join answered is not new", n, size)
			}
			for _, p := range ps {
				scribble(p.Data)
			}
			if !bytes.Equal(again, b) {
				t.Errorf("%d bytes by %d: what Join answered changed with the packets", n, size)
			}
		}
	}
}

// P15.2, W6: packets whose data lie in one another's room are joined as they are, and the room stays as it was.
func TestJoinShared(t *testing.T) {
	room := text(40)
	was := bytes.Clone(room)
	ps := []api.Packet{
		{Index: 0, Count: 4, Data: room[:3]},
		{Index: 1, Count: 4, Data: room[10:20]},
		{Index: 2, Count: 4, Data: room[1:12]},
		{Index: 3, Count: 4, Data: room[:3]},
	}
	got := joined(t, ps, slices.Concat(was[:3], was[10:20], was[1:12], was[:3]))
	if !bytes.Equal(room, was) {
		t.Error("Join wrote into the packets' room")
	}
	scribble(got)
	if !bytes.Equal(room, was) {
		t.Error("what Join answered is the packets' room")
	}
	apart(t, "a part of them", ps[:3])
	if !bytes.Equal(room, was) {
		t.Error("Join, answering false, wrote into the packets' room")
	}
}

// strew is a source of numbers below n.
func strew(seed uint64) func(n int) int {
	state := seed + 15
	return func(n int) int {
		state = state*6364136223846793005 + 1442695040888963407
		return int(state>>33) % n
	}
}

// P15.1, P15.2: strewn bytes, sizes and numbers; what is cut is joined again, and not when it is shuffled.
func TestStrewn(t *testing.T) {
	fit, long := 0, 0
	for seed := range uint64(3000) {
		draw := strew(seed)
		b := make([]byte, draw(3000))
		for k := range b {
			b[k] = byte(draw(256))
		}
		from, to, id := nodes[draw(len(nodes))], nodes[draw(len(nodes))], ids[draw(len(ids))]
		ps := split(t, b, from, to, id, 1+draw(1+draw(60)))
		if len(ps) == 0 {
			long++
			continue
		}
		fit++
		joined(t, ps, b)
		k, l := draw(len(ps)), draw(len(ps))
		if k != l {
			ps[k], ps[l] = ps[l], ps[k]
			apart(t, "shuffled ones", ps)
		}
	}
	if fit == 0 || long == 0 {
		t.Errorf("%d that fit, %d too long", fit, long)
	}
}
