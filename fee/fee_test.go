package fee

import (
	"crypto/sha256"
	"math"
	"math/big"
	"math/rand"
	"reflect"
	"slices"
	"testing"

	"pappus/api"
)

// some are n bytes of all kinds, others for another seed.
func some(n int, seed int64) []byte {
	b := make([]byte, n)
	rand.New(rand.NewSource(seed)).Read(b)
	return b
}

// out is so much for whoever has the key.
func out(value uint64, key []byte) api.Out {
	return api.Out{Value: value, Lock: sha256.Sum256(key)}
}

// ins are n inputs that spend different points with Keys of different sizes, from none to the longest.
func ins(n int) []api.In {
	var l []api.In
	for i := range n {
		key := some(i*api.MaxWitness/api.MaxIns, int64(i))
		if i == n-1 {
			key = some(api.MaxWitness, int64(i))
		}
		l = append(l, api.In{From: api.Point{N: uint32(i)}, Key: key})
	}
	return l
}

// outs are outputs of these Values.
func outs(values ...uint64) []api.Out {
	var l []api.Out
	for i, v := range values {
		l = append(l, out(v, []byte{byte(i)}))
	}
	return l
}

// spent are the outputs of these Values that a transaction's keys open.
func spent(t api.Tx, values ...uint64) []api.Out {
	var l []api.Out
	for i, v := range values {
		l = append(l, out(v, t.Ins[i].Key))
	}
	return l
}

// split are n numbers that are sum, added; none of them 0, if sum allows it.
func split(sum uint64, n int) []uint64 {
	var l []uint64
	for i := range n {
		part := sum / uint64(n-i)
		l, sum = append(l, part), sum-part
	}
	return l
}

// refuses fails unless Of answers this error, and no fee.
func refuses(t *testing.T, x api.Tx, prev []api.Out, want api.Errno, what ...any) {
	t.Helper()
	if n, e := Of(x, prev); n != 0 || e != want {
		t.Errorf("%v: %d, error %d, not %d", what, n, e, want)
	}
}

// pays fails unless Of answers this fee.
func pays(t *testing.T, x api.Tx, prev []api.Out, want uint64, what ...any) {
	t.Helper()
	if n, e := Of(x, prev); n != want || e != api.OK {
		t.Errorf("%v: %d, not %d; error %d", what, n, want, e)
	}
}

// The chapter's examples.
func TestExamples(t *testing.T) {
	if n := Floor(250); n != 25 {
		t.Error(n)
	}
	if !Less(Weight{1, 10}, Weight{2, 19}) {
		t.Error("not less")
	}
	l := []Weight{{5, 10}, {6, 10}, {1, 2}}
	if got := Order(l); !slices.Equal(got, []int{1, 0, 2}) {
		t.Error(got)
	}
	if n := Worst(l); n != 0 {
		t.Error(n)
	}
}

// P10.1: a lock is its key's Sum, whatever the key's size.
func TestLock(t *testing.T) {
	for n := range 200 {
		key := some(n, int64(n))
		want := slices.Clone(key)
		if got := Lock(key); got != sha256.Sum256(key) {
			t.Error(n, got)
		}
		if !slices.Equal(key, want) {
			t.Error("a key is changed")
		}
	}
	if Lock(nil) != sha256.Sum256(nil) || Lock(nil) != Lock([]byte{}) {
		t.Error("no key")
	}
}

// P10.1: the fee is what is spent, less what is made, for all counts of inputs and outputs.
func TestFees(t *testing.T) {
	for i := 1; i <= api.MaxIns; i++ {
		for j := 1; j <= api.MaxOuts; j++ {
			for _, has := range []uint64{uint64(j), 1000, api.MaxMoney - 1, api.MaxMoney} {
				for _, fee := range []uint64{0, 1, 999, api.MaxMoney, math.MaxUint64 - has} {
					x := api.Tx{Ins: ins(i), Outs: outs(split(has, j)...)}
					pays(t, x, spent(x, split(has+fee, i)...), fee, i, j, has, fee)
				}
			}
		}
	}
}

// P10.1: Values of outputs that are spent may be any, 0 and more than MaxMoney too, as long as their sum is a number.
func TestMoney(t *testing.T) {
	const most = math.MaxUint64
	x := api.Tx{Ins: ins(3), Outs: outs(7, 5)}
	for i, z := range []struct {
		values []uint64
		fee    uint64
		e      api.Errno
	}{
		{[]uint64{0, 0, 12}, 0, api.OK},
		{[]uint64{12, 0, 0}, 0, api.OK},
		{[]uint64{4, 4, 4}, 0, api.OK},
		{[]uint64{4, 4, 5}, 1, api.OK},
		{[]uint64{0, 0, 11}, 0, api.ErrMoney},
		{[]uint64{4, 4, 3}, 0, api.ErrMoney},
		{[]uint64{0, 0, 0}, 0, api.ErrMoney},
		{[]uint64{0, api.MaxMoney + 1, 0}, api.MaxMoney - 11, api.OK},
		{[]uint64{most, 0, 0}, most - 12, api.OK},
		{[]uint64{0, 0, most}, most - 12, api.OK},
		{[]uint64{1 << 63, 1<<63 - 2, 1}, most - 12, api.OK},
		{[]uint64{most, 1, 0}, 0, api.ErrMoney},
		{[]uint64{1, most, 0}, 0, api.ErrMoney},
		{[]uint64{0, 1, most}, 0, api.ErrMoney},
		{[]uint64{1 << 63, 1<<63 - 1, 1}, 0, api.ErrMoney},
		// Behind the wrap there would be enough.
		{[]uint64{1 << 63, 1 << 63, 100}, 0, api.ErrMoney},
		{[]uint64{most, most, most}, 0, api.ErrMoney},
		{[]uint64{most, 14, 0}, 0, api.ErrMoney},
	} {
		if n, e := Of(x, spent(x, z.values...)); n != z.fee || e != z.e {
			t.Error(i, n, e)
		}
	}
}

// P10.1: a list of outputs that is too short or too long; no other fault comes ahead of it but those of the transaction.
func TestCounts(t *testing.T) {
	for n := 1; n <= api.MaxIns; n++ {
		x := api.Tx{Ins: ins(n), Outs: outs(3)}
		prev := spent(x, split(100, n)...)
		pays(t, x, prev, 97, n)
		refuses(t, x, nil, api.ErrArg, n)
		refuses(t, x, []api.Out{}, api.ErrArg, n)
		refuses(t, x, prev[:n-1], api.ErrArg, n)
		refuses(t, x, append(slices.Clone(prev), out(1, nil)), api.ErrArg, n)
		refuses(t, x, append(slices.Clone(prev), prev...), api.ErrArg, n)
		// Beside it: a wrong lock, too little, too much.
		refuses(t, x, make([]api.Out, n-1), api.ErrArg, n)
		refuses(t, x, make([]api.Out, n+1), api.ErrArg, n)
		refuses(t, x, append(slices.Clone(prev), out(math.MaxUint64, nil)), api.ErrArg, n)
	}
}

// P10.1: a key must open the lock of its own output: every place, and every byte of a lock, counts.
func TestLocks(t *testing.T) {
	x := api.Tx{Ins: ins(api.MaxIns), Outs: outs(3)}
	good := spent(x, split(100, api.MaxIns)...)
	pays(t, x, good, 97)
	for i := range good {
		for j := range 32 {
			prev := slices.Clone(good)
			prev[i].Lock[j] ^= 1 << (j % 8)
			refuses(t, x, prev, api.ErrLock, i, j)
		}
		prev := slices.Clone(good)
		prev[i].Lock = api.Hash{}
		refuses(t, x, prev, api.ErrLock, i)
		for j := range i {
			// Each of both keys opens the other one's lock.
			prev := slices.Clone(good)
			prev[i], prev[j] = prev[j], prev[i]
			refuses(t, x, prev, api.ErrLock, i, j)
		}
	}
	slices.Reverse(good)
	refuses(t, x, good, api.ErrLock)
}

// P10.1: a Key may be any, one that is nil, empty or long, or the lock itself; one key may open many locks.
func TestKeys(t *testing.T) {
	lock := Lock([]byte("a"))
	for i, z := range []struct {
		key, opens []byte
		e          api.Errno
	}{
		{nil, nil, api.OK},
		{[]byte{}, nil, api.OK},
		{nil, []byte{}, api.OK},
		{[]byte{0}, []byte{0}, api.OK},
		{nil, []byte{0}, api.ErrLock},
		{[]byte{0}, nil, api.ErrLock},
		{[]byte{0, 0}, []byte{0}, api.ErrLock},
		{lock[:], lock[:], api.OK},
		{lock[:], []byte("a"), api.ErrLock},
		{some(64, 1), some(64, 1), api.OK},
		{some(64, 1), some(64, 2), api.ErrLock},
		{some(64, 1)[:63], some(64, 1), api.ErrLock},
	} {
		x := api.Tx{Ins: []api.In{{Key: z.key}}, Outs: outs(1)}
		if n, e := Of(x, []api.Out{out(1, z.opens)}); n != 0 || e != z.e {
			t.Error(i, n, e)
		}
	}
	x := api.Tx{Ins: []api.In{{Key: []byte("a")}, {From: api.Point{N: 1}, Key: []byte("a")}}, Outs: outs(1)}
	pays(t, x, []api.Out{out(1, []byte("a")), out(2, []byte("a"))}, 2)
}

// P10.1: what Check of the transaction says comes ahead of all else, whatever outputs are handed in.
func TestCheckFirst(t *testing.T) {
	long := ins(2)
	long[1].Key = make([]byte, api.MaxWitness+1)
	twice := ins(2)
	twice[1].From = twice[0].From
	for i, z := range []struct {
		x api.Tx
		e api.Errno
	}{
		{api.Tx{}, api.ErrNone},
		{api.Tx{Ins: ins(2)}, api.ErrNone},
		{api.Tx{Outs: outs(1)}, api.ErrNone},
		{api.Tx{Ins: long, Outs: outs(1)}, api.ErrLong},
		{api.Tx{Ins: ins(9), Outs: outs(1)}, api.ErrLong},
		{api.Tx{Ins: ins(2), Outs: outs(1, 1, 1, 1, 1, 1, 1, 1, 1)}, api.ErrLong},
		{api.Tx{Ins: ins(2), Outs: outs(1, 0)}, api.ErrMoney},
		{api.Tx{Ins: ins(2), Outs: outs(api.MaxMoney + 1)}, api.ErrMoney},
		{api.Tx{Ins: ins(2), Outs: outs(api.MaxMoney, 1)}, api.ErrMoney},
		{api.Tx{Ins: ins(2), Outs: outs(math.MaxUint64, 2)}, api.ErrMoney},
		{api.Tx{Ins: twice, Outs: outs(1)}, api.ErrTwice},
	} {
		var right []api.Out
		for _, in := range z.x.Ins {
			right = append(right, out(1<<52, in.Key))
		}
		refuses(t, z.x, right, z.e, i, "right")
		refuses(t, z.x, nil, z.e, i, "none")
		refuses(t, z.x, make([]api.Out, len(right)), z.e, i, "locked")
		refuses(t, z.x, append(right, right...), z.e, i, "more")
		refuses(t, z.x, append(right, api.Out{}), z.e, i, "one more")
	}
}

// P10.1: a wrong lock comes ahead of wrong money, wherever both stand.
func TestLockFirst(t *testing.T) {
	x := api.Tx{Ins: ins(3), Outs: outs(7, 5)}
	for _, values := range [][]uint64{{1, 1, 1}, {0, 0, 0}, {math.MaxUint64, 1, 0}, {0, math.MaxUint64, 1}, {math.MaxUint64, math.MaxUint64, math.MaxUint64}} {
		refuses(t, x, spent(x, values...), api.ErrMoney, values)
		for i := range 3 {
			prev := spent(x, values...)
			prev[i].Lock[31]++
			refuses(t, x, prev, api.ErrLock, values, i)
		}
	}
}

// P10.1: Version, the points and the outputs' locks don't count.
func TestOtherFields(t *testing.T) {
	x := api.Tx{Ins: ins(2), Outs: outs(7, 5)}
	prev := spent(x, 10, 10)
	for _, version := range []uint32{0, 1, math.MaxUint32} {
		x.Version = version
		x.Ins[0].From = api.Point{Tx: api.Hash(some(32, int64(version))), N: version}
		x.Outs[0].Lock = api.Hash(some(32, -int64(version)))
		pays(t, x, prev, 8, version)
	}
}

// P10.1: nothing that is handed in is changed.
func TestOfChangesNothing(t *testing.T) {
	make1 := func() (api.Tx, []api.Out) {
		x := api.Tx{Version: 1, Ins: ins(4)[:3], Outs: outs(7, 5, 3)[:2]}
		return x, spent(x, 10, 20, 30)
	}
	x, prev := make1()
	y, same := make1()
	roomy := append(slices.Clone(prev), out(9, nil))
	want := slices.Clone(roomy)
	pays(t, x, prev, 48)
	pays(t, x, roomy[:3], 48)
	refuses(t, x, roomy[:2], api.ErrArg)
	refuses(t, x, []api.Out{{}, {}, {}}, api.ErrLock)
	if !reflect.DeepEqual(x, y) || !slices.Equal(prev, same) || !slices.Equal(roomy, want) {
		t.Error("changed")
	}
	if len(x.Ins[:4][3].Key) != api.MaxWitness || x.Outs[:3][2].Value != 3 {
		t.Error("spare room is changed")
	}
}

// P10.2: a floor is a tenth of a size, rounded up; of sizes below 0 it is that of 0.
func TestFloor(t *testing.T) {
	for n := range 3001 {
		if got, want := Floor(n), uint64(math.Ceil(float64(n)/10)); got != want {
			t.Error(n, got, want)
		}
	}
	for _, n := range []int{-1, -9, -10, -11, -1000, math.MinInt32, math.MinInt + 1, math.MinInt} {
		if got := Floor(n); got != 0 {
			t.Error(n, got)
		}
	}
	for n, want := range map[int]uint64{
		math.MaxInt:     922337203685477581,
		math.MaxInt - 7: 922337203685477580,
		math.MaxInt - 6: 922337203685477581,
		1 << 62:         461168601842738791,
		1 << 32:         429496730,
	} {
		if got := Floor(n); got != want {
			t.Error(n, got, want)
		}
	}
}

// edges are weights at all kinds of edges.
func edges() []Weight {
	var l []Weight
	for _, fee := range []uint64{0, 1, 2, 3, 10, 1<<32 - 1, 1 << 32, 1<<63 - 1, 1 << 63, math.MaxUint64 - 1, math.MaxUint64} {
		for _, size := range []int{math.MinInt, -7, -1, 0, 1, 2, 3, 10, 1<<32 - 1, 1 << 32, math.MaxInt - 1, math.MaxInt} {
			l = append(l, Weight{fee, size})
		}
	}
	return l
}

// whole is a weight as a fraction.
func whole(w Weight) *big.Rat {
	fee := new(big.Int).SetUint64(w.Fee)
	size := big.NewInt(max(int64(w.Size), 1))
	return new(big.Rat).SetFrac(fee, size)
}

// P10.2: Less as whole fractions have it.
func TestLess(t *testing.T) {
	l := edges()
	for _, a := range l {
		for _, b := range l {
			if got, want := Less(a, b), whole(a).Cmp(whole(b)) < 0; got != want {
				t.Error(a, b, got)
			}
		}
	}
	r := rand.New(rand.NewSource(10))
	for range 20000 {
		a := Weight{r.Uint64() >> r.Intn(64), int(r.Int63() >> r.Intn(63))}
		b := Weight{r.Uint64() >> r.Intn(64), int(r.Int63() >> r.Intn(63))}
		if r.Intn(4) == 0 {
			// Nearly a's fraction.
			b = Weight{a.Fee/3*2 + uint64(r.Intn(3)), a.Size/3*2 + r.Intn(3)}
		}
		if got, want := Less(a, b), whole(a).Cmp(whole(b)) < 0; got != want {
			t.Error(a, b, got)
		}
	}
}

// P10.2: fractions that only differ far behind the point, and sizes that count as 1.
func TestLessNear(t *testing.T) {
	for i, z := range []struct{ less, more Weight }{
		{Weight{math.MaxUint64 - 1, math.MaxInt}, Weight{math.MaxUint64, math.MaxInt}},
		{Weight{math.MaxUint64, math.MaxInt}, Weight{math.MaxUint64, math.MaxInt - 1}},
		{Weight{1, 3}, Weight{1 << 61, 3<<61 - 1}},
		{Weight{1<<61 - 1, 3<<61 - 1}, Weight{1, 3}},
		{Weight{0, 1}, Weight{1, math.MaxInt}},
		{Weight{1, 2}, Weight{1, 1}},
		{Weight{1, 2}, Weight{1, 0}},
		{Weight{1, 2}, Weight{1, -2}},
		{Weight{1, math.MinInt}, Weight{2, math.MinInt}},
	} {
		if !Less(z.less, z.more) || Less(z.more, z.less) {
			t.Error(i)
		}
	}
	for i, z := range []struct{ a, b Weight }{
		{Weight{0, 1}, Weight{0, math.MaxInt}},
		{Weight{5, 1}, Weight{5, 0}},
		{Weight{5, 1}, Weight{5, math.MinInt}},
		{Weight{5, -3}, Weight{10, 2}},
		{Weight{1, 3}, Weight{1 << 61, 3 << 61}},
		{Weight{5, 10}, Weight{1, 2}},
	} {
		if Less(z.a, z.b) || Less(z.b, z.a) || Less(z.a, z.a) {
			t.Error(i)
		}
	}
}

// ordered says whether places are all of l's, as P10.3 has them.
func ordered(l []Weight, places []int) bool {
	all := slices.Sorted(slices.Values(places))
	for i, p := range all {
		if p != i {
			return false
		}
	}
	for j := 1; j < len(places); j++ {
		c := whole(l[places[j-1]]).Cmp(whole(l[places[j]]))
		if c < 0 || c == 0 && places[j-1] > places[j] {
			return false
		}
	}
	return len(places) == len(l)
}

// worst is the place that P10.3 asks for, by going through all.
func worst(l []Weight) int {
	var all []*big.Rat
	for _, w := range l {
		all = append(all, whole(w))
	}
	return slices.IndexFunc(all, func(w *big.Rat) bool {
		return !slices.ContainsFunc(all, func(x *big.Rat) bool { return x.Cmp(w) < 0 })
	})
}

// P10.3: Order and Worst of lists of all kinds and lengths, with many alike.
func TestOrder(t *testing.T) {
	r := rand.New(rand.NewSource(103))
	few := []Weight{{0, 0}, {0, 5}, {1, 2}, {2, 4}, {5, 10}, {1, 1}, {1, -1}, {3, 2}, {math.MaxUint64, math.MaxInt}, {math.MaxUint64, 1}, {2, 1}}
	for n := range 70 {
		for _, from := range [][]Weight{few, edges(), few[2:5], few[:1]} {
			var l []Weight
			for range n {
				l = append(l, from[r.Intn(len(from))])
			}
			was := slices.Clone(l)
			if got := Order(l); !ordered(l, got) {
				t.Fatal(l, got)
			}
			if got := Worst(l); got != worst(l) {
				t.Fatal(l, got)
			}
			if !slices.Equal(l, was) {
				t.Fatal("changed")
			}
		}
	}
}

// P10.3: of those that pay the same, the first one is first, and the first one is the worst.
func TestOrderAlike(t *testing.T) {
	for n := 1; n < 50; n++ {
		var l []Weight
		var want []int
		for i := range n {
			l = append(l, Weight{uint64(3 * (i%7 + 1)), 5 * (i%7 + 1)})
			want = append(want, i)
		}
		if got := Order(l); !slices.Equal(got, want) {
			t.Error(n, got)
		}
		if got := Worst(l); got != 0 {
			t.Error(n, got)
		}
		// A worse one, and another such behind it.
		for i := range n {
			l[i].Size++
			for j := i + 1; j < n; j++ {
				l[j] = l[i]
			}
			if got := Worst(l); got != worst(l) {
				t.Error(n, i, got)
			}
		}
	}
}

// P10.3: of none, no places, and -1.
func TestOrderNone(t *testing.T) {
	for _, l := range [][]Weight{nil, {}, make([]Weight, 1)[:0]} {
		if len(Order(l)) != 0 || Worst(l) != -1 {
			t.Error(Order(l), Worst(l))
		}
	}
	if got := Order([]Weight{{}}); !slices.Equal(got, []int{0}) || Worst([]Weight{{}}) != 0 {
		t.Error(got)
	}
}

// P10.3: each answer is new memory.
func TestOrderMemory(t *testing.T) {
	l := []Weight{{1, 1}, {2, 1}, {3, 1}, {9, 1}}[:3]
	one, two := Order(l), Order(l)
	clear(one[:cap(one)])
	if !slices.Equal(two, []int{2, 1, 0}) || l[:4][3] != (Weight{9, 1}) {
		t.Error(two, l[:4])
	}
}

// P10.4: a fee, and what the outputs have, are what the inputs had, whatever Values there are.
func TestNothingLost(t *testing.T) {
	r := rand.New(rand.NewSource(104))
	seen := map[api.Errno]int{}
	all := ins(api.MaxIns)
	for range 5000 {
		x := api.Tx{Ins: all[:1+r.Intn(8)]}
		for range 1 + r.Intn(8) {
			x.Outs = append(x.Outs, out(uint64(1+r.Intn(api.MaxMoney/8)), nil))
		}
		var prev []api.Out
		had, has := new(big.Int), new(big.Int)
		for _, in := range x.Ins {
			prev = append(prev, out(r.Uint64()>>r.Intn(30), in.Key))
			had.Add(had, new(big.Int).SetUint64(prev[len(prev)-1].Value))
		}
		for _, o := range x.Outs {
			has.Add(has, new(big.Int).SetUint64(o.Value))
		}
		n, e := Of(x, prev)
		seen[e]++
		if e == api.OK {
			has.Add(has, new(big.Int).SetUint64(n))
			if has.Cmp(had) != 0 {
				t.Error(x, prev, n)
			}
		} else if e != api.ErrMoney || n != 0 || had.IsUint64() && had.Cmp(has) >= 0 {
			t.Error(x, prev, n, e)
		}
	}
	if seen[api.OK] < 500 || seen[api.ErrMoney] < 500 {
		t.Error("too seldom:", seen)
	}
}
