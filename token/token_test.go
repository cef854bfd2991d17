package token

import (
	"errors"
	"math"
	"slices"
	"testing"

	"sigillum/api"
	"sigillum/oracle"
	"sigillum/tape"
)

// word is one more than the greatest word: what is cut off is a multiple of it.
const word = 1 << 48

// model tells the checks and ports out of a list of draws, and looks all that it has told through by every question.
type model struct {
	list []uint64 // the draws that are left
	all  []oracle.Entry
}

func (m *model) ask(f oracle.Function, in uint64) (uint64, error) {
	for _, e := range m.all {
		if e.Of == f && e.In == in {
			return e.Out, nil
		}
	}
	if len(m.list) == 0 {
		return 0, api.ErrTape
	}
	out := m.list[0] % word
	m.list = m.list[1:]
	m.all = append(m.all, oracle.Entry{Of: f, In: in, Out: out})
	return out, nil
}

func (m *model) of(secret uint64, rights uint8) (uint64, error) {
	if rights == 255 {
		return secret % word, nil
	}
	return m.ask(oracle.Check, secret%word^uint64(rights))
}

func (m *model) good(secret uint64, c api.Cap) (bool, error) {
	check, err := m.of(secret, c.Rights)
	return err == nil && c.Check == check, err
}

func (m *model) restrict(c api.Cap, mask uint8) (api.Cap, error) {
	if c.Rights != 255 {
		return api.Cap{}, api.ErrRights
	}
	check, err := m.of(c.Check, mask)
	if err != nil {
		return api.Cap{}, err
	}
	return api.Cap{Port: c.Port, Object: c.Object, Rights: mask, Check: check}, nil
}

func (m *model) port(get uint64) (uint64, error) { return m.ask(oracle.Put, get%word) }

// pair is an oracle, and the model of what it is asked for.
type pair struct {
	o *oracle.Oracle
	m *model
}

func over(list ...uint64) pair {
	return pair{oracle.Of(tape.Of(list)), &model{list: list}}
}

// same holds an answer with its error against the model's, and what the oracle has and has left.
func same[T comparable](t *testing.T, p pair, name string, got T, err error, want T, wrong error) {
	t.Helper()
	if got != want {
		t.Fatalf("%s: %v, want %v (%v)", name, got, want, p.m.all)
	}
	if wrong == nil && err != nil || wrong != nil && (!errors.Is(err, wrong) || api.Number(err) != api.Number(wrong)) {
		t.Fatalf("%s: error %v, want %v (%v)", name, err, wrong, p.m.all)
	}
	if all := p.o.Entries(); !slices.Equal(all, p.m.all) || p.o.Left() != len(p.m.list) {
		t.Fatalf("%s: %v and %d left, want %v and %d", name, all, p.o.Left(), p.m.all, len(p.m.list))
	}
}

// step is one call, at an oracle and at the model.
type step func(t *testing.T, p pair)

func of(secret uint64, rights uint8) step {
	return func(t *testing.T, p pair) {
		t.Helper()
		want, wrong := p.m.of(secret, rights)
		got, err := Of(p.o, secret, rights)
		same(t, p, "Of", got, err, want, wrong)
	}
}

func good(secret uint64, c api.Cap) step {
	return func(t *testing.T, p pair) {
		t.Helper()
		want, wrong := p.m.good(secret, c)
		got, err := Good(p.o, secret, c)
		same(t, p, "Good", got, err, want, wrong)
	}
}

func restrict(c api.Cap, mask uint8) step {
	return func(t *testing.T, p pair) {
		t.Helper()
		want, wrong := p.m.restrict(c, mask)
		got, err := Restrict(p.o, c, mask)
		same(t, p, "Restrict", got, err, want, wrong)
	}
}

func port(get uint64) step {
	return func(t *testing.T, p pair) {
		t.Helper()
		want, wrong := p.m.port(get)
		got, err := Port(p.o, get)
		same(t, p, "Port", got, err, want, wrong)
	}
}

// fresh is an oracle of as many draws, from a first one on.
func fresh(first uint64, draws int) *oracle.Oracle {
	list := make([]uint64, draws)
	for k := range list {
		list[k] = first + uint64(k)
	}
	return oracle.Of(tape.Of(list))
}

// checks asks for a check once, and holds it against one that is written out.
func checks(t *testing.T, o *oracle.Oracle, secret uint64, rights uint8, want uint64) {
	t.Helper()
	if v, err := Of(o, secret, rights); v != want || err != nil {
		t.Errorf("Of(%x, %d): %x, %v, want %x", secret, rights, v, err, want)
	}
}

// judges asks once whether a capability is good, and holds that against what is written out.
func judges(t *testing.T, o *oracle.Oracle, secret uint64, c api.Cap, want bool) {
	t.Helper()
	if ok, err := Good(o, secret, c); ok != want || err != nil {
		t.Errorf("Good(%x, %+v): %v, %v, want %v", secret, c, ok, err, want)
	}
}

// narrows restricts once, and holds the capability against one that is written out.
func narrows(t *testing.T, o *oracle.Oracle, c api.Cap, mask uint8, want api.Cap) {
	t.Helper()
	if got, err := Restrict(o, c, mask); got != want || err != nil {
		t.Errorf("Restrict(%+v, %d): %+v, %v, want %+v", c, mask, got, err, want)
	}
}

// puts asks for a port once, and holds it against one that is written out.
func puts(t *testing.T, o *oracle.Oracle, get, want uint64) {
	t.Helper()
	if v, err := Port(o, get); v != want || err != nil {
		t.Errorf("Port(%x): %x, %v, want %x", get, v, err, want)
	}
}

// leaves holds the number of draws that are left against one that is written out.
func leaves(t *testing.T, o *oracle.Oracle, want int) {
	t.Helper()
	if got := o.Left(); got != want {
		t.Errorf("%d draws left, want %d", got, want)
	}
}

// enters holds the oracle's answers against those that are written out.
func enters(t *testing.T, o *oracle.Oracle, want ...oracle.Entry) {
	t.Helper()
	if got := o.Entries(); !slices.Equal(got, want) {
		t.Errorf("answers %v, want %v", got, want)
	}
}

// P7.1, P7.2: the chapter's examples.
func TestExamples(t *testing.T) {
	o := fresh(70, 1)
	checks(t, o, 5, api.Owner, 5)
	if c, err := Restrict(o, api.Cap{Port: 1, Object: 2, Rights: 1, Check: 5}, 1); c != (api.Cap{}) || !errors.Is(err, api.ErrRights) {
		t.Errorf("Restrict of rights 1: %+v, %v", c, err)
	}
	leaves(t, o, 1)
}

// P7.1: the check for Owner is the secret, cut, and takes no draw, though there are some.
func TestOfOwner(t *testing.T) {
	o := fresh(70, 3)
	for secret, want := range map[uint64]uint64{
		0:                  0,
		5:                  5,
		255:                255,
		word - 1:           word - 1,
		word:               0,
		word + 5:           5,
		1<<63 + 5:          5,
		0x123456789abcdef0: 0x56789abcdef0,
		math.MaxUint64:     word - 1,
	} {
		for range 3 {
			checks(t, o, secret, api.Owner, want)
		}
	}
	for k := range 64 {
		want := uint64(0)
		if k < 48 {
			want = 1 << k
		}
		checks(t, o, 1<<k, api.Owner, want)
	}
	leaves(t, o, 3)
	enters(t, o)
}

// P7.1: the check for any rights but Owner is the oracle's answer of Check to the secret xor the rights.
func TestOfRights(t *testing.T) {
	for _, secret := range []uint64{0, 5, 255, 0x56789abcdef0, word - 1} {
		o := fresh(1000, 260)
		for rights := range 255 {
			want := uint64(1000 + rights)
			checks(t, o, secret, uint8(rights), want)
			all := o.Entries()
			last := oracle.Entry{Of: oracle.Check, In: secret ^ uint64(rights), Out: want}
			if len(all) != rights+1 || all[rights] != last {
				t.Fatalf("secret %x, rights %d: answers %v, the last one should be %v", secret, rights, all, last)
			}
		}
		leaves(t, o, 5)
	}
}

// P7.1: rights 0 are rights like others: their check is drawn, and is not the secret.
func TestOfNoRights(t *testing.T) {
	o := fresh(70, 2)
	checks(t, o, 5, 0, 70)
	checks(t, o, 5, 0, 70)
	checks(t, o, 0, 0, 71)
	leaves(t, o, 0)
	enters(t, o, oracle.Entry{Of: oracle.Check, In: 5, Out: 70}, oracle.Entry{Of: oracle.Check, In: 0, Out: 71})
}

// P7.1: secrets that are alike when they are cut have the same checks; each of the 48 bits makes others.
func TestOfCut(t *testing.T) {
	like := []uint64{5, word + 5, 1<<63 + 5, math.MaxUint64 - word + 1 + 5}
	for _, first := range like {
		o := fresh(70, 3)
		checks(t, o, first, 3, 70)
		for _, secret := range like {
			checks(t, o, secret, 3, 70)
		}
		leaves(t, o, 2)
		enters(t, o, oracle.Entry{Of: oracle.Check, In: 6, Out: 70})
	}
	o := fresh(500, 50)
	checks(t, o, 0, 0, 500)
	for k := range 64 {
		want := uint64(500)
		if k < 48 {
			want = uint64(501 + k)
		}
		checks(t, o, 1<<k, 0, want)
	}
	leaves(t, o, 1)
}

// P7.1: secrets and rights whose xor is alike have one check, since one thing is asked for both.
func TestOfLikeXor(t *testing.T) {
	o := fresh(70, 2)
	for rights := range 255 {
		checks(t, o, 0xabc000000012^uint64(rights), uint8(rights), 70)
	}
	leaves(t, o, 1)
	enters(t, o, oracle.Entry{Of: oracle.Check, In: 0xabc000000012, Out: 70})
	// Owner is not asked for, whatever its xor is; and an xor that is Owner's number is a question like others.
	checks(t, o, 0xabc000000012^0xff, api.Owner, 0xabc000000012^0xff)
	leaves(t, o, 1)
	checks(t, o, 0xff, 0, 71)
	checks(t, o, 1, 0xfe, 71)
}

// P7.1: a sum or another mixing of secret and rights would make these alike, or unlike.
func TestOfXor(t *testing.T) {
	o := fresh(70, 5)
	checks(t, o, 3, 1, 70)
	checks(t, o, 2, 0, 70)
	checks(t, o, 4, 0, 71)
	checks(t, o, 3, 0, 72)
	checks(t, o, 1, 2, 72)
	checks(t, o, 0x100, 0, 73)
	checks(t, o, 0xff, 1, 74)
	leaves(t, o, 0)
}

// P7.1: a check that was told ahead takes no draw again, whoever asked for it.
func TestOfToldAhead(t *testing.T) {
	own := api.Cap{Port: 1, Object: 2, Rights: api.Owner, Check: 5}
	for name, ahead := range map[string]func(o *oracle.Oracle){
		"Of":       func(o *oracle.Oracle) { Of(o, 5, 3) },
		"like xor": func(o *oracle.Oracle) { Of(o, 6, 0) },
		"Good":     func(o *oracle.Oracle) { Good(o, 5, api.Cap{Rights: 3, Check: 1}) },
		"Restrict": func(o *oracle.Oracle) { Restrict(o, own, 3) },
		"Ask":      func(o *oracle.Oracle) { o.Ask(oracle.Check, 6) },
	} {
		t.Run(name, func(t *testing.T) {
			o := fresh(70, 2)
			ahead(o)
			for range 3 {
				checks(t, o, 5, 3, 70)
				judges(t, o, 5, api.Cap{Rights: 3, Check: 70}, true)
				narrows(t, o, own, 3, api.Cap{Port: 1, Object: 2, Rights: 3, Check: 70})
			}
			leaves(t, o, 1)
			enters(t, o, oracle.Entry{Of: oracle.Check, In: 6, Out: 70})
		})
	}
}

// P7.1: draws that are alike, 0 or longer than a word are checks like others.
func TestOfDraws(t *testing.T) {
	o := oracle.Of(tape.Of([]uint64{0, 8, 8, word + 9, math.MaxUint64}))
	for k, want := range []uint64{0, 8, 8, 9, word - 1} {
		checks(t, o, 1<<20, uint8(k), want)
		judges(t, o, 1<<20, api.Cap{Rights: uint8(k), Check: want}, true)
		checks(t, o, 1<<20, uint8(k), want)
	}
	leaves(t, o, 0)
}

// P7.1: a capability of any rights is good by its secret's check for them, whatever its port and object are.
func TestGood(t *testing.T) {
	for _, secret := range []uint64{0, 5, 0x56789abcdef0, word - 1} {
		o := fresh(1000, 255)
		for rights := range 256 {
			check := uint64(1000 + rights)
			if rights == api.Owner {
				check = secret
			}
			for _, c := range []api.Cap{
				{Rights: uint8(rights), Check: check},
				{Port: 7, Object: 9, Rights: uint8(rights), Check: check},
				{Port: math.MaxUint64, Object: math.MaxUint32, Rights: uint8(rights), Check: check},
			} {
				judges(t, o, secret, c, true)
			}
		}
		leaves(t, o, 0)
	}
}

// P7.1: each other rights than those that a check was told for make it bad, and what those need is drawn.
func TestGoodRightsChanged(t *testing.T) {
	for _, rights := range []uint8{0, 1, 3, 128, 254} {
		for other := range 256 {
			if uint8(other) == rights {
				continue
			}
			o := fresh(70, 3)
			checks(t, o, 5, rights, 70)
			judges(t, o, 5, api.Cap{Rights: uint8(other), Check: 70}, false)
			left := 1
			if other == api.Owner {
				left = 2
			}
			leaves(t, o, left)
			judges(t, o, 5, api.Cap{Rights: uint8(other), Check: 70}, false)
			leaves(t, o, left)
			judges(t, o, 5, api.Cap{Rights: rights, Check: 70}, true)
		}
	}
}

// P7.1: each bit of a check that is turned makes it bad, those ahead of a word's among them: the check is as it stands, not cut.
func TestGoodCheckChanged(t *testing.T) {
	o := fresh(0x123456789abc, 1)
	for k := range 64 {
		judges(t, o, 5, api.Cap{Rights: 3, Check: 0x123456789abc ^ 1<<k}, false)
		judges(t, o, 5, api.Cap{Rights: api.Owner, Check: 5 ^ 1<<k}, false)
	}
	judges(t, o, 5, api.Cap{Rights: 3, Check: 0xffff123456789abc}, false)
	judges(t, o, 5, api.Cap{Rights: 3, Check: 0}, false)
	judges(t, o, 5, api.Cap{Rights: 3, Check: 0x123456789abc}, true)
	leaves(t, o, 0)
	enters(t, o, oracle.Entry{Of: oracle.Check, In: 6, Out: 0x123456789abc})
}

// P7.1: an owner's capability is good by the secret, cut, and takes no draw.
func TestGoodOwner(t *testing.T) {
	o := fresh(70, 2)
	judges(t, o, 5, api.Cap{Rights: api.Owner, Check: 5}, true)
	judges(t, o, word+5, api.Cap{Rights: api.Owner, Check: 5}, true)
	judges(t, o, 5, api.Cap{Rights: api.Owner, Check: 6}, false)
	judges(t, o, 6, api.Cap{Rights: api.Owner, Check: 5}, false)
	// Nor is a check good that is alike only when it is cut, even where the secret is the same number.
	judges(t, o, 5, api.Cap{Rights: api.Owner, Check: word + 5}, false)
	judges(t, o, word+5, api.Cap{Rights: api.Owner, Check: word + 5}, false)
	judges(t, o, word, api.Cap{Rights: api.Owner}, true)
	judges(t, o, math.MaxUint64, api.Cap{Rights: api.Owner, Check: math.MaxUint64}, false)
	judges(t, o, math.MaxUint64, api.Cap{Rights: api.Owner, Check: word - 1}, true)
	// The draws are no owner's checks.
	judges(t, o, 5, api.Cap{Rights: api.Owner, Check: 70}, false)
	leaves(t, o, 2)
	enters(t, o)
}

// P7.1: a capability of another secret is bad, one of a secret that is alike when it is cut is not.
func TestGoodOtherSecret(t *testing.T) {
	o := fresh(70, 4)
	c := api.Cap{Rights: 3, Check: 70}
	judges(t, o, 5, c, true)
	judges(t, o, word+5, c, true)
	judges(t, o, 1<<63+5, c, true)
	leaves(t, o, 3)
	judges(t, o, 4, c, false)
	judges(t, o, 5+1<<47, c, false)
	leaves(t, o, 1)
	// The secret itself is the check of no rights but Owner.
	judges(t, o, 9, api.Cap{Rights: 3, Check: 9}, false)
	leaves(t, o, 0)
}

// P7.1: a check that was never told is good when the draw happens to be it.
func TestGoodGuessed(t *testing.T) {
	o := oracle.Of(tape.Of([]uint64{70, 5, 0}))
	judges(t, o, 5, api.Cap{Rights: 3, Check: 70}, true)
	judges(t, o, 5, api.Cap{Rights: 4, Check: 5}, true)
	judges(t, o, 1<<20, api.Cap{}, true)
	leaves(t, o, 0)
}

// P7.2: Restrict by every mask: the check of c's check, and the rights of the mask; port and object stay as they are.
func TestRestrict(t *testing.T) {
	for _, own := range []api.Cap{
		{Port: 1, Object: 2, Rights: api.Owner, Check: 5},
		{Rights: api.Owner},
		{Port: word - 1, Object: api.Objects - 1, Rights: api.Owner, Check: word - 1},
		{Port: math.MaxUint64, Object: math.MaxUint32, Rights: api.Owner, Check: 0x56789abcdef0},
	} {
		o, kept := fresh(1000, 256), own
		for mask := range 255 {
			want := api.Cap{Port: own.Port, Object: own.Object, Rights: uint8(mask), Check: uint64(1000 + mask)}
			for range 2 {
				narrows(t, o, own, uint8(mask), want)
			}
			leaves(t, o, 255-mask)
			checks(t, o, own.Check, uint8(mask), want.Check)
			judges(t, o, own.Check, want, true)
		}
		narrows(t, o, own, api.Owner, own)
		leaves(t, o, 1)
		if own != kept {
			t.Errorf("%+v was changed to %+v", kept, own)
		}
	}
}

// P7.2: the mask Owner leaves an owner's capability, its check cut, and takes no draw.
func TestRestrictOwner(t *testing.T) {
	o := fresh(70, 2)
	for check, want := range map[uint64]uint64{0: 0, 5: 5, word - 1: word - 1, word: 0, word + 5: 5, math.MaxUint64: word - 1} {
		own := api.Cap{Port: word + 1, Object: api.Objects + 2, Rights: api.Owner, Check: check}
		narrows(t, o, own, api.Owner, api.Cap{Port: word + 1, Object: api.Objects + 2, Rights: api.Owner, Check: want})
	}
	leaves(t, o, 2)
	enters(t, o)
}

// P7.2: the mask 0 takes all rights, and its check is drawn as others are.
func TestRestrictToNone(t *testing.T) {
	o := fresh(70, 2)
	narrows(t, o, api.Cap{Port: 1, Object: 2, Rights: api.Owner, Check: 5}, 0, api.Cap{Port: 1, Object: 2, Check: 70})
	leaves(t, o, 1)
	enters(t, o, oracle.Entry{Of: oracle.Check, In: 5, Out: 70})
}

// P7.2: checks that are alike when they are cut are restricted alike.
func TestRestrictCut(t *testing.T) {
	o := fresh(70, 2)
	for _, check := range []uint64{word + 5, 5, 1<<63 + 5} {
		own := api.Cap{Port: 1, Object: 2, Rights: api.Owner, Check: check}
		narrows(t, o, own, 3, api.Cap{Port: 1, Object: 2, Rights: 3, Check: 70})
	}
	leaves(t, o, 1)
	enters(t, o, oracle.Entry{Of: oracle.Check, In: 6, Out: 70})
}

// P7.2: a capability that is no owner's is not restricted, by no mask, and no draw is taken, though its check was told.
func TestRestrictNoOwner(t *testing.T) {
	for name, o := range map[string]*oracle.Oracle{"draws": fresh(70, 3), "none left": fresh(70, 1), "nil tape": oracle.Of(nil)} {
		t.Run(name, func(t *testing.T) {
			Of(o, 5, 3)
			left, all := o.Left(), o.Entries()
			for rights := range 255 {
				for _, mask := range []uint8{0, 1, 3, uint8(rights), 254, api.Owner} {
					for _, check := range []uint64{0, 5, 70, math.MaxUint64} {
						c, err := Restrict(o, api.Cap{Port: 1, Object: 2, Rights: uint8(rights), Check: check}, mask)
						if c != (api.Cap{}) || !errors.Is(err, api.ErrRights) || api.Number(err) != api.ErrRights {
							t.Fatalf("rights %d, mask %d: %+v, %v", rights, mask, c, err)
						}
					}
				}
			}
			leaves(t, o, left)
			enters(t, o, all...)
		})
	}
}

// P7.2, T6: what was restricted is not restricted on, but by the mask Owner.
func TestRestrictOn(t *testing.T) {
	o := fresh(70, 2)
	own := api.Cap{Port: 1, Object: 2, Rights: api.Owner, Check: 5}
	again, err := Restrict(o, own, api.Owner)
	if err != nil {
		t.Fatal(err)
	}
	narrows(t, o, again, 3, api.Cap{Port: 1, Object: 2, Rights: 3, Check: 70})
	narrow, _ := Restrict(o, again, 3)
	for mask := range 256 {
		if c, err := Restrict(o, narrow, uint8(mask)); c != (api.Cap{}) || !errors.Is(err, api.ErrRights) {
			t.Errorf("mask %d: %+v, %v", mask, c, err)
		}
	}
	// With an owner's rights laid on it, it is restricted, but what comes of that is not good.
	narrow.Rights = api.Owner
	forged, err := Restrict(o, narrow, 3)
	if err != nil || forged != (api.Cap{Port: 1, Object: 2, Rights: 3, Check: 71}) {
		t.Errorf("%+v, %v", forged, err)
	}
	judges(t, o, 5, forged, false)
	judges(t, o, 5, narrow, false)
}

// P7.2: a port is the oracle's answer of Put, told again to the same word, and to one that is alike when it is cut.
func TestPort(t *testing.T) {
	o := fresh(70, 52)
	puts(t, o, 5, 70)
	puts(t, o, 5, 70)
	puts(t, o, word+5, 70)
	puts(t, o, 1<<63+5, 70)
	leaves(t, o, 51)
	enters(t, o, oracle.Entry{Of: oracle.Put, In: 5, Out: 70})
	puts(t, o, math.MaxUint64, 71)
	puts(t, o, word-1, 71)
	puts(t, o, word, 72)
	puts(t, o, 0, 72)
	for k := range 48 {
		puts(t, o, 1<<k, uint64(73+k))
	}
	leaves(t, o, 1)
	// A port that is put to is no port that is got from.
	puts(t, o, 70, 121)
}

// P7.2: a port and a check of the same word are apart, whichever was asked for first.
func TestPortBesideCheck(t *testing.T) {
	o := fresh(70, 2)
	puts(t, o, 5, 70)
	checks(t, o, 5, 0, 71)
	puts(t, o, 5, 70)
	checks(t, o, 5, 0, 71)
	checks(t, o, 4, 1, 71)
	enters(t, o, oracle.Entry{Of: oracle.Put, In: 5, Out: 70}, oracle.Entry{Of: oracle.Check, In: 5, Out: 71})
	o = fresh(70, 2)
	checks(t, o, 5, 0, 70)
	puts(t, o, 5, 71)
	checks(t, o, 5, 0, 70)
	puts(t, o, 5, 71)
	enters(t, o, oracle.Entry{Of: oracle.Check, In: 5, Out: 70}, oracle.Entry{Of: oracle.Put, In: 5, Out: 71})
}

// P7.2: a port that the oracle was asked for ahead takes no draw, and one of 0 is a port like others.
func TestPortToldAhead(t *testing.T) {
	o := oracle.Of(tape.Of([]uint64{0, word + 9}))
	o.Ask(oracle.Put, 5)
	puts(t, o, 5, 0)
	leaves(t, o, 1)
	puts(t, o, 6, 9)
	puts(t, o, 5, 0)
	leaves(t, o, 0)
}

// P7.1, P7.2, W3: without a draw each call that needs one answers zero and ErrTape, however often, and nothing changes.
func TestNoDraws(t *testing.T) {
	own := api.Cap{Port: 1, Object: 2, Rights: api.Owner, Check: 5}
	for name, o := range map[string]*oracle.Oracle{
		"nil tape":     oracle.Of(nil),
		"tape of nil":  oracle.Of(tape.Of(nil)),
		"tape of none": oracle.Of(tape.Of([]uint64{})),
	} {
		t.Run(name, func(t *testing.T) {
			p := pair{o, &model{}}
			for range 3 {
				for rights := range 255 {
					of(5, uint8(rights))(t, p)
					good(5, api.Cap{Rights: uint8(rights)})(t, p)
					good(5, api.Cap{Port: 1, Object: 2, Rights: uint8(rights), Check: 5})(t, p)
					restrict(own, uint8(rights))(t, p)
				}
				port(5)(t, p)
				port(0)(t, p)
				// What needs no draw is told all the same.
				checks(t, o, word+5, api.Owner, 5)
				judges(t, o, 5, own, true)
				judges(t, o, 6, own, false)
				narrows(t, o, own, api.Owner, own)
			}
			if v, err := Of(o, 5, 0); v != 0 || !errors.Is(err, api.ErrTape) {
				t.Errorf("Of: %x, %v", v, err)
			}
			if ok, err := Good(o, 5, api.Cap{}); ok || !errors.Is(err, api.ErrTape) {
				t.Errorf("Good: %v, %v", ok, err)
			}
			if c, err := Restrict(o, own, 3); c != (api.Cap{}) || !errors.Is(err, api.ErrTape) {
				t.Errorf("Restrict: %+v, %v", c, err)
			}
			if v, err := Port(o, 5); v != 0 || !errors.Is(err, api.ErrTape) {
				t.Errorf("Port: %x, %v", v, err)
			}
			leaves(t, o, 0)
			enters(t, o)
		})
	}
}

// P7.1, P7.2, W3: behind the last draw what was told is told still, and nothing else is.
func TestEnd(t *testing.T) {
	own := api.Cap{Port: 1, Object: 2, Rights: api.Owner, Check: 5}
	p := over(70, 80)
	of(5, 3)(t, p)
	port(5)(t, p)
	for range 100 {
		of(6, 3)(t, p)
		good(6, api.Cap{Rights: 3, Check: 70})(t, p)
		restrict(own, 4)(t, p)
		port(6)(t, p)
		checks(t, p.o, 5, 3, 70)
		judges(t, p.o, 5, api.Cap{Rights: 3, Check: 70}, true)
		narrows(t, p.o, own, 3, api.Cap{Port: 1, Object: 2, Rights: 3, Check: 70})
		puts(t, p.o, word+5, 80)
		leaves(t, p.o, 0)
		enters(t, p.o, oracle.Entry{Of: oracle.Check, In: 6, Out: 70}, oracle.Entry{Of: oracle.Put, In: 5, Out: 80})
	}
}

// P7.1, P7.2: every run of up to four steps, on tapes that are too short, just long enough and longer.
func TestShortRuns(t *testing.T) {
	steps := []step{
		of(5, 3),
		of(word+6, 0),
		of(5, api.Owner),
		good(5, api.Cap{Rights: 3, Check: 7}),
		good(6, api.Cap{Port: 1, Rights: api.Owner, Check: 6}),
		restrict(api.Cap{Port: 4, Object: 8, Rights: api.Owner, Check: word + 5}, 1),
		restrict(api.Cap{Rights: 254, Check: 5}, 3),
		port(6),
		port(word + 6),
	}
	tapes := [][]uint64{nil, {7}, {0, word + 7}, {7, 7, 9, math.MaxUint64, 6}}
	runs := [][]int{nil}
	for from := 0; from < len(runs); from++ {
		for _, list := range tapes {
			p := over(list...)
			for _, k := range runs[from] {
				steps[k](t, p)
			}
		}
		if len(runs[from]) == 4 {
			continue
		}
		for k := range steps {
			runs = append(runs, append(slices.Clone(runs[from]), k))
		}
	}
}

// P7.1, P7.2: long runs of strewn steps, of few secrets and of many.
func TestStrewnRuns(t *testing.T) {
	next := uint64(1)
	strewn := func(below uint64) uint64 {
		next = next*6364136223846793005 + 1442695040888963407
		return next >> 33 % below
	}
	some := []uint8{0, 1, 2, 3, 128, 254, 255, 255}
	rights := func() uint8 { return some[strewn(uint64(len(some)))] }
	for _, secrets := range []uint64{2, 10, 1000} {
		list := make([]uint64, 200)
		for k := range list {
			list[k] = strewn(8) + strewn(3)<<48
		}
		p := over(list...)
		for range 600 {
			secret := strewn(secrets) + strewn(3)<<48
			c := api.Cap{Port: strewn(9) << 45, Object: uint32(strewn(1 << 30)), Rights: rights(), Check: strewn(8) + strewn(2)<<48}
			of(secret, rights())(t, p)
			good(secret, c)(t, p)
			restrict(c, rights())(t, p)
			if strewn(3) == 0 {
				port(secret)(t, p)
			}
		}
	}
}
