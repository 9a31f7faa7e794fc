package coin

import (
	"encoding/binary"
	"math"
	"math/rand"
	"slices"
	"testing"

	"pappus/api"
)

// at is a point: the first byte of its Tx, the last one, and its N.
func at(first, last byte, n uint32) api.Point {
	return api.Point{Tx: api.Hash{0: first, 31: last}, N: n}
}

// out is an output, another one for another value.
func out(v uint64) api.Out {
	return api.Out{Value: v, Lock: api.Hash{0: byte(v), 31: ^byte(v)}}
}

// of is the coin of a point with such an output.
func of(p api.Point, v uint64) api.Coin {
	return api.Coin{At: p, Out: out(v)}
}

// edges are points that differ in little, in their order.
func edges() []api.Point {
	var l []api.Point
	for _, first := range []byte{0, 1, 0x7f, 0x80, 0xff} {
		for _, last := range []byte{0, 1, 0x7f, 0x80, 0xff} {
			for _, n := range []uint32{0, 1, 255, 256, 1 << 16, 1<<31 - 1, 1 << 31, math.MaxUint32} {
				l = append(l, at(first, last, n))
			}
		}
	}
	return l
}

// coins are the coins of points, the i-th with value 1 + i.
func coins(l ...api.Point) []api.Coin {
	var cs []api.Coin
	for i, p := range l {
		cs = append(cs, of(p, uint64(1+i)))
	}
	return cs
}

// outsOf are the outputs of coins.
func outsOf(l []api.Coin) []api.Out {
	var outs []api.Out
	for _, c := range l {
		outs = append(outs, c.Out)
	}
	return outs
}

// pointsIn are the points of coins.
func pointsIn(l []api.Coin) []api.Point {
	var ps []api.Point
	for _, c := range l {
		ps = append(ps, c.At)
	}
	return ps
}

// shuffled are the things of a list in another order.
func shuffled[T any](l []T, seed int64) []T {
	l = slices.Clone(l)
	rand.New(rand.NewSource(seed)).Shuffle(len(l), func(i, j int) { l[i], l[j] = l[j], l[i] })
	return l
}

// name is a point as text, whose order as text is the points'.
func name(p api.Point) string {
	return string(binary.BigEndian.AppendUint32(p.Tx[:], p.N))
}

// set is a set of these coins, which must be one.
func set(t *testing.T, l ...api.Coin) *Set {
	t.Helper()
	s, e := New(l...)
	if s == nil || e != api.OK {
		t.Fatal("no set:", e)
	}
	return s
}

// holds fails unless a set has just these coins, whatever order they are told in; all its functions must say so.
func holds(t *testing.T, s *Set, l []api.Coin, what ...any) {
	t.Helper()
	l = slices.Clone(l)
	slices.SortFunc(l, func(a, b api.Coin) int {
		if name(a.At) < name(b.At) {
			return -1
		}
		return 1
	})
	if got := s.All(); !slices.Equal(got, l) {
		t.Errorf("%v: %d coins, not %d: %v, not %v", what, len(got), len(l), got, l)
	}
	if s.Len() != len(l) {
		t.Errorf("%v: Len %d, not %d", what, s.Len(), len(l))
	}
	for _, c := range l {
		if got, there := s.Find(c.At); !there || got != c.Out {
			t.Errorf("%v: Find(%v): %v, %v", what, c.At, got, there)
		}
	}
}

// lacks fails unless none of these points is in a set.
func lacks(t *testing.T, s *Set, l ...api.Point) {
	t.Helper()
	for _, p := range l {
		if got, there := s.Find(p); there || got != (api.Out{}) {
			t.Errorf("Find(%v): %v, %v", p, got, there)
		}
	}
}

// takes fails unless Take answers these outputs.
func takes(t *testing.T, s *Set, want []api.Out, l ...api.Point) {
	t.Helper()
	if got, e := s.Take(l...); e != api.OK || !slices.Equal(got, want) {
		t.Errorf("Take: %v, not %v; %d", got, want, e)
	}
}

// The chapter's examples.
func TestExamples(t *testing.T) {
	a, b, c := at(1, 0, 3), at(1, 0, 9), at(2, 0, 0)
	s := set(t, of(c, 1), of(b, 2), of(a, 3))
	if got := pointsIn(s.All()); !slices.Equal(got, []api.Point{a, b, c}) {
		t.Error(got)
	}
	if e := s.Put(of(at(1, 0, 0), 1), of(at(1, 0, 0), 1)); e != api.ErrTwice {
		t.Error(e)
	}
}

// P9.1: of no coins at all there is a set, and nothing may be put there.
func TestNoCoins(t *testing.T) {
	for i, l := range [][]api.Coin{nil, {}} {
		s := set(t, l...)
		holds(t, s, nil, i)
		lacks(t, s, api.Point{}, at(1, 1, 1))
		if e := s.Put(l...); e != api.OK {
			t.Error(i, e)
		}
		takes(t, s, nil)
		takes(t, s, nil, []api.Point{}...)
		holds(t, s, nil, i)
		if got, e := s.Take(api.Point{}); len(got) != 0 || e != api.ErrNone {
			t.Error(i, got, e)
		}
		if e := s.Put(of(api.Point{}, 7)); e != api.OK {
			t.Error(i, e)
		}
		holds(t, s, []api.Coin{of(api.Point{}, 7)}, i)
	}
}

// P9.1: New holds all the coins, whatever stands in them.
func TestNew(t *testing.T) {
	all := coins(edges()...)
	for n := range 9 {
		holds(t, set(t, all[:n]...), all[:n], n)
	}
	odd := []api.Coin{{}, {At: api.Point{N: 1}, Out: api.Out{Value: math.MaxUint64}}, {At: api.Point{N: 2}, Out: api.Out{Value: api.MaxMoney + 1}}}
	holds(t, set(t, odd...), odd)
	lacks(t, set(t, all[1:]...), all[0].At)
}

// P9.1: New with a point twice, with the same output or another one, wherever both stand: no set.
func TestNewTwice(t *testing.T) {
	l := coins(edges()[:6]...)
	for i := range l {
		for j := range len(l) + 1 {
			for _, v := range []uint64{uint64(1 + i), 99} {
				twice := slices.Insert(slices.Clone(l), j, of(l[i].At, v))
				if s, e := New(twice...); s != nil || e != api.ErrTwice {
					t.Error(i, j, v, s, e)
				}
			}
		}
	}
	if s, e := New(api.Coin{}, api.Coin{}); s != nil || e != api.ErrTwice {
		t.Error(s, e)
	}
}

// P9.1: what is put is in the set, beside what is there.
func TestPut(t *testing.T) {
	all := coins(edges()...)
	s := set(t)
	for i, n := 0, 0; i < len(all); i, n = i+n, n+1 {
		if e := s.Put(all[i:min(i+n, len(all))]...); e != api.OK {
			t.Fatal(i, n, e)
		}
		holds(t, s, all[:min(i+n, len(all))], i)
		lacks(t, s, pointsIn(all[min(i+n, len(all)):])...)
	}
}

// P9.1, P9.4: the errors of Put, in their order; the set is as it was.
func TestPutErrors(t *testing.T) {
	p := edges()
	there := coins(p[:5]...)
	s := set(t, there...)
	same, other, fresh, more := there[2], of(p[2], 99), of(p[10], 50), of(p[11], 51)
	for i, x := range []struct {
		l []api.Coin
		e api.Errno
	}{
		{[]api.Coin{fresh, fresh}, api.ErrTwice},
		{[]api.Coin{fresh, of(fresh.At, 51)}, api.ErrTwice},
		{[]api.Coin{fresh, more, fresh}, api.ErrTwice},
		{[]api.Coin{more, fresh, of(fresh.At, 0)}, api.ErrTwice},
		{[]api.Coin{same}, api.ErrThere},
		{[]api.Coin{other}, api.ErrThere},
		{[]api.Coin{same, fresh}, api.ErrThere},
		{[]api.Coin{fresh, same}, api.ErrThere},
		{[]api.Coin{fresh, other}, api.ErrThere},
		{[]api.Coin{fresh, other, more}, api.ErrThere},
		{there, api.ErrThere},
		{append(slices.Clone(there), fresh), api.ErrThere},
		// Both: a point twice comes first, be it in the set or not.
		{[]api.Coin{same, same}, api.ErrTwice},
		{[]api.Coin{same, other}, api.ErrTwice},
		{[]api.Coin{other, same, fresh}, api.ErrTwice},
		{[]api.Coin{same, fresh, fresh}, api.ErrTwice},
		{[]api.Coin{fresh, fresh, same}, api.ErrTwice},
		{[]api.Coin{fresh, same, of(fresh.At, 3)}, api.ErrTwice},
	} {
		if e := s.Put(x.l...); e != x.e {
			t.Errorf("%d: error %d, not %d", i, e, x.e)
		}
		holds(t, s, there, i)
		lacks(t, s, fresh.At, more.At)
	}
	if e := s.Put(fresh, more); e != api.OK {
		t.Error(e)
	}
	holds(t, s, append(there, fresh, more))
}

// P9.1 to P9.3: points that differ in their N alone, or in one byte of their Tx alone, are different ones.
func TestNear(t *testing.T) {
	base := api.Coin{At: at(5, 5, 5), Out: out(1)}
	near := []api.Coin{base}
	for i := range 32 {
		for _, bit := range []byte{1, 0x80} {
			c := base
			c.At.Tx[i] ^= bit
			near = append(near, c)
		}
	}
	for i := range 32 {
		c := base
		c.At.N ^= 1 << i
		near = append(near, c)
	}
	for i := range near {
		near[i].Out = out(uint64(i))
		s := set(t, near[:i]...)
		lacks(t, s, near[i].At)
		if got, e := s.Take(near[i].At); len(got) != 0 || e != api.ErrNone {
			t.Error(i, got, e)
		}
		if e := s.Put(near[i]); e != api.OK {
			t.Error(i, e)
		}
		holds(t, s, near[:i+1], i)
		if i > 0 {
			takes(t, s, []api.Out{near[i].Out}, near[i].At)
			holds(t, s, near[:i], i)
		}
	}
}

// P9.2: outputs in the order of what is taken, and they alone are gone.
func TestTake(t *testing.T) {
	all := coins(edges()...)
	for seed := range int64(20) {
		s := set(t, shuffled(all, seed)...)
		gone := shuffled(all, -seed)
		for n := 0; len(gone) > 0; n++ {
			l := gone[:min(n, len(gone))]
			gone = gone[len(l):]
			takes(t, s, outsOf(l), pointsIn(l)...)
			holds(t, s, gone, seed, n)
			lacks(t, s, pointsIn(l)...)
		}
	}
	s := set(t, all...)
	takes(t, s, outsOf(all), edges()...)
	holds(t, s, nil)
}

// P9.2: outputs that are alike, or zero, are told each for itself.
func TestTakeAlike(t *testing.T) {
	s := set(t, of(at(1, 0, 0), 7), of(at(1, 0, 1), 7), api.Coin{At: at(1, 0, 2)})
	takes(t, s, []api.Out{{}, out(7), out(7)}, at(1, 0, 2), at(1, 0, 1), at(1, 0, 0))
	holds(t, s, nil)
}

// P9.2, P9.4: the errors of Take, in their order; the set is as it was.
func TestTakeErrors(t *testing.T) {
	p := edges()
	there := coins(p[:5]...)
	s := set(t, there...)
	no, nor := p[10], api.Point{Tx: p[0].Tx, N: 77}
	for i, x := range []struct {
		l []api.Point
		e api.Errno
	}{
		{[]api.Point{no}, api.ErrNone},
		{[]api.Point{no, nor}, api.ErrNone},
		{[]api.Point{no, p[0], p[1]}, api.ErrNone},
		{[]api.Point{p[0], no, p[1]}, api.ErrNone},
		{[]api.Point{p[0], p[1], no}, api.ErrNone},
		{append(slices.Clone(p[:5]), nor), api.ErrNone},
		{[]api.Point{p[0], p[0]}, api.ErrTwice},
		{[]api.Point{p[0], p[1], p[0]}, api.ErrTwice},
		{[]api.Point{p[1], p[0], p[0]}, api.ErrTwice},
		// Both: a point twice comes first, be it in the set or not.
		{[]api.Point{no, no}, api.ErrTwice},
		{[]api.Point{no, nor, no}, api.ErrTwice},
		{[]api.Point{no, p[0], p[0]}, api.ErrTwice},
		{[]api.Point{p[0], p[0], no}, api.ErrTwice},
		{[]api.Point{p[0], no, p[0]}, api.ErrTwice},
		{[]api.Point{p[0], no, no}, api.ErrTwice},
	} {
		if got, e := s.Take(x.l...); len(got) != 0 || e != x.e {
			t.Errorf("%d: %v, error %d, not %d", i, got, e, x.e)
		}
		holds(t, s, there, i)
		lacks(t, s, no, nor)
	}
}

// P9.2: what is taken isn't there to be taken again.
func TestTakeAgain(t *testing.T) {
	s := set(t, of(at(1, 0, 0), 1), of(at(2, 0, 0), 2))
	takes(t, s, []api.Out{out(1)}, at(1, 0, 0))
	if got, e := s.Take(at(2, 0, 0), at(1, 0, 0)); len(got) != 0 || e != api.ErrNone {
		t.Error(got, e)
	}
	takes(t, s, []api.Out{out(2)}, at(2, 0, 0))
	holds(t, s, nil)
}

// P9.3: All is in the order of the points, whatever order the coins were put in, and in how many calls.
func TestOrder(t *testing.T) {
	all := coins(edges()...)
	for seed := range int64(40) {
		mixed := shuffled(all, seed)
		cut := int(seed) * len(all) / 40
		s := set(t, mixed[:cut]...)
		if e := s.Put(mixed[cut:]...); e != api.OK {
			t.Fatal(e)
		}
		for range 3 {
			if got := s.All(); !slices.Equal(got, all) {
				t.Fatalf("seed %d: %v", seed, got)
			}
		}
	}
	// Each byte of a Tx counts more than all behind it, and all of them more than N.
	for i := range 32 {
		low, high := at(0, 0, math.MaxUint32), at(0, 0, 0)
		for j := range 32 {
			if j > i {
				low.Tx[j] = 0xff
			}
		}
		high.Tx[i] = 1
		s := set(t, of(high, 1), of(low, 2))
		if got := s.All(); !slices.Equal(got, []api.Coin{of(low, 2), of(high, 1)}) {
			t.Error(i, got)
		}
	}
}

// P9.3: neither a set nor its copy changes by what is done to the other one.
func TestCopy(t *testing.T) {
	all := coins(edges()[:6]...)
	for _, back := range []bool{false, true} {
		one := set(t, all...)
		two := one.Copy()
		holds(t, two, all, back)
		if back {
			one, two = two, one
		}
		if e := one.Put(of(at(9, 9, 9), 9)); e != api.OK {
			t.Error(e)
		}
		takes(t, one, outsOf(all[:2]), pointsIn(all[:2])...)
		holds(t, two, all, back)
		lacks(t, two, at(9, 9, 9))
		// The same point again, with another output.
		if e := one.Put(of(all[0].At, 77)); e != api.OK {
			t.Error(e)
		}
		holds(t, two, all, back)
		left := append([]api.Coin{of(all[0].At, 77), of(at(9, 9, 9), 9)}, all[2:]...)
		holds(t, one, left, back)
		takes(t, two, outsOf(all), pointsIn(all)...)
		holds(t, one, left, back)
		holds(t, two, nil, back)
	}
}

// P9.3: a copy of no coins is a set of its own, and so is a copy's copy.
func TestCopyEmpty(t *testing.T) {
	one := set(t)
	two := one.Copy()
	three := two.Copy()
	if two == nil || three == nil {
		t.Fatal("no copy")
	}
	for i, s := range []*Set{three, one, two} {
		holds(t, s, nil, i)
		if e := s.Put(of(at(1, 1, uint32(i)), 5)); e != api.OK {
			t.Error(i, e)
		}
		holds(t, s, []api.Coin{of(at(1, 1, uint32(i)), 5)}, i)
	}
}

// P9.4: what is put, and taken, was never there.
func TestNeverThere(t *testing.T) {
	all := coins(edges()[:9]...)
	s := set(t, all...)
	fresh := []api.Coin{of(at(8, 8, 8), 80), of(at(8, 8, 9), 81)}
	for i := range 4 {
		if e := s.Put(fresh...); e != api.OK {
			t.Fatal(i, e)
		}
		holds(t, s, append(slices.Clone(all), fresh...), i)
		takes(t, s, outsOf(fresh), pointsIn(fresh)...)
		holds(t, s, all, i)
		lacks(t, s, pointsIn(fresh)...)
		// Another output under the same point, the next time.
		fresh[0].Out = out(uint64(90 + i))
	}
	takes(t, s, outsOf(all), pointsIn(all)...)
	holds(t, s, nil)
	if e := s.Put(all...); e != api.OK {
		t.Error(e)
	}
	holds(t, s, all)
}

// P9.1 to P9.4: what a caller changes in what it handed in, or was given, changes no set; nor does a call change what it was handed.
func TestMemory(t *testing.T) {
	p := edges()
	all := coins(p[:6]...)
	room := append(slices.Clone(all), coins(p[20:30]...)...)
	in := slices.Clone(room)
	s := set(t, in[:3]...)
	if e := s.Put(in[3:6]...); e != api.OK {
		t.Error(e)
	}
	if !slices.Equal(in, room) {
		t.Error("what was put is changed")
	}
	clear(in)
	holds(t, s, all)

	got := s.All()
	clear(got[:cap(got)])
	holds(t, s, all)
	one, two := s.All(), s.All()
	clear(one[:cap(one)])
	if !slices.Equal(two, all) {
		t.Error("two answers share memory")
	}

	want := slices.Clone(p)
	outs, e := s.Take(p[1:3]...)
	if e != api.OK || !slices.Equal(p, want) {
		t.Error("what was taken is changed", e)
	}
	clear(outs[:cap(outs)])
	clear(p)
	holds(t, s, append(slices.Clone(all[:1]), all[3:]...))

	for _, l := range [][]api.Coin{{all[0]}, {all[1], all[1]}} {
		before := slices.Clone(l)
		if s.Put(l...) == api.OK || !slices.Equal(l, before) {
			t.Error("a refused list is changed")
		}
	}
}

// P9.1 to P9.3: of a nil Set, ErrNil ahead of every other error, and nothing beside it.
func TestNil(t *testing.T) {
	var s *Set
	c := of(at(1, 1, 1), 1)
	for i, l := range [][]api.Coin{nil, {c}, {c, c}} {
		if e := s.Put(l...); e != api.ErrNil {
			t.Error(i, e)
		}
		if got, e := s.Take(pointsIn(l)...); len(got) != 0 || e != api.ErrNil {
			t.Error(i, got, e)
		}
	}
	lacks(t, s, api.Point{}, c.At)
	if got := s.All(); len(got) != 0 {
		t.Error(got)
	}
	if s.Len() != 0 {
		t.Error(s.Len())
	}
	if s.Copy() != nil {
		t.Error("a copy of nothing")
	}
}

// A Set that New didn't make is one without coins.
func TestZeroSet(t *testing.T) {
	holds(t, new(Set), nil)
	holds(t, new(Set).Copy(), nil)
	if got, e := new(Set).Take(api.Point{}); len(got) != 0 || e != api.ErrNone {
		t.Error(got, e)
	}
	s := new(Set)
	if e := s.Put(of(api.Point{}, 3)); e != api.OK {
		t.Error(e)
	}
	holds(t, s, []api.Coin{of(api.Point{}, 3)})
}

// model is a set as a plain list, told by what the promises say.
type model []api.Coin

// twice says whether a point stands twice.
func twice(l []api.Point) bool {
	for i, p := range l {
		if slices.Contains(l[:i], p) {
			return true
		}
	}
	return false
}

// find is where a point stands, or -1.
func (m model) find(p api.Point) int {
	return slices.IndexFunc(m, func(c api.Coin) bool { return c.At == p })
}

// put is the model behind a Put.
func (m model) put(l []api.Coin) (model, api.Errno) {
	if twice(pointsIn(l)) {
		return m, api.ErrTwice
	}
	for _, c := range l {
		if m.find(c.At) >= 0 {
			return m, api.ErrThere
		}
	}
	return append(slices.Clone(m), l...), api.OK
}

// take is the model behind a Take, and what it answers.
func (m model) take(l []api.Point) (model, []api.Out, api.Errno) {
	if twice(l) {
		return m, nil, api.ErrTwice
	}
	left := slices.Clone(m)
	var outs []api.Out
	for _, p := range l {
		i := left.find(p)
		if i < 0 {
			return m, nil, api.ErrNone
		}
		outs = append(outs, left[i].Out)
		left = slices.Delete(left, i, i+1)
	}
	return left, outs, api.OK
}

// P9.1 to P9.4: whatever is done to a set, and to its copies, they are as plain lists are.
func TestModel(t *testing.T) {
	r := rand.New(rand.NewSource(9))
	few := shuffled(edges(), 9)[:12]
	sets, models := []*Set{set(t)}, []model{nil}
	seen := map[api.Errno]int{}
	for step := range 6000 {
		i := r.Intn(len(sets))
		var l []api.Coin
		for range r.Intn(4) {
			l = append(l, of(few[r.Intn(len(few))], uint64(r.Intn(1000))))
		}
		var e, want api.Errno
		switch r.Intn(5) {
		case 0, 1:
			e = sets[i].Put(l...)
			models[i], want = models[i].put(l)
		case 2, 3:
			var got, outs []api.Out
			got, e = sets[i].Take(pointsIn(l)...)
			models[i], outs, want = models[i].take(pointsIn(l))
			if !slices.Equal(got, outs) {
				t.Fatalf("step %d: %v, not %v", step, got, outs)
			}
		default:
			j := r.Intn(3)
			if j >= len(sets) {
				sets, models = append(sets, nil), append(models, nil)
				j = len(sets) - 1
			}
			sets[j], models[j] = sets[i].Copy(), slices.Clone(models[i])
		}
		if e != want {
			t.Fatalf("step %d: error %d, not %d", step, e, want)
		}
		seen[e]++
		for k := range sets {
			holds(t, sets[k], models[k], step, k)
		}
		if t.Failed() {
			t.FailNow()
		}
	}
	for _, e := range []api.Errno{api.OK, api.ErrTwice, api.ErrThere, api.ErrNone} {
		if seen[e] < 100 {
			t.Error("too seldom:", e, seen[e])
		}
	}
}

// A great set answers in good time.
func TestMany(t *testing.T) {
	const n = 20000
	var all []api.Coin
	for i := range n {
		p := api.Point{N: uint32(i % 8)}
		binary.BigEndian.PutUint32(p.Tx[:], uint32(i/8))
		all = append(all, of(p, uint64(i)))
	}
	s := set(t, shuffled(all, 3)...)
	if got := s.All(); !slices.Equal(got, all) {
		t.Error("another order")
	}
	c := s.Copy()
	l := shuffled(all, 4)
	takes(t, s, outsOf(l), pointsIn(l)...)
	holds(t, s, nil)
	holds(t, c, all)
}
