package tx

import (
	"bytes"
	"crypto/sha256"
	"encoding/binary"
	"encoding/hex"
	"fmt"
	"math"
	"math/rand"
	"reflect"
	"slices"
	"strings"
	"testing"

	"pappus/api"
)

// raw is the bytes that a text of hex digits, with spaces between, stands for.
func raw(text string) []byte {
	b, err := hex.DecodeString(strings.ReplaceAll(text, " ", ""))
	if err != nil {
		panic(err)
	}
	return b
}

// some are n bytes of all kinds, others for another seed.
func some(n int, seed int64) []byte {
	b := make([]byte, n)
	rand.New(rand.NewSource(seed)).Read(b)
	return b
}

// hash is a hash of all kinds of bytes.
func hash(seed int64) api.Hash {
	return api.Hash(some(32, seed))
}

// ins are n inputs whose Keys have size bytes; all of them differ.
func ins(n, size int) []api.In {
	var l []api.In
	for i := range n {
		seed := int64(100*n + i)
		l = append(l, api.In{From: api.Point{Tx: hash(seed), N: uint32(0xf1020304 * (i + 1))}, Key: some(size, -seed)})
	}
	return l
}

// outs are n outputs; all of them differ.
func outs(n int) []api.Out {
	var l []api.Out
	for i := range n {
		l = append(l, api.Out{Value: 0xf102030405060708 * uint64(i+1), Lock: hash(int64(1000 + i))})
	}
	return l
}

// good is a transaction that passes Check.
func good() api.Tx {
	t := api.Tx{Version: 0x01020304, Ins: ins(3, 5), Outs: outs(3)}
	for i := range t.Outs {
		t.Outs[i].Value = uint64(10 + i)
	}
	return t
}

// turned is a good one with something changed.
func turned(f func(x *api.Tx)) api.Tx {
	x := good()
	f(&x)
	return x
}

// short is a number as short as may be, by the library.
func short(x int) []byte {
	switch {
	case x < 253:
		return []byte{byte(x)}
	case x < 1<<16:
		return binary.LittleEndian.AppendUint16([]byte{253}, uint16(x))
	}
	return binary.LittleEndian.AppendUint32([]byte{254}, uint32(x))
}

// fields are the parts of a transaction's bytes, by the library; of one without a form too.
func fields(x api.Tx) [][]byte {
	four := func(n uint32) []byte { return binary.LittleEndian.AppendUint32(nil, n) }
	l := [][]byte{four(x.Version), short(len(x.Ins))}
	for _, in := range x.Ins {
		l = append(l, bytes.Clone(in.From.Tx[:]), four(in.From.N), short(len(in.Key)), in.Key)
	}
	l = append(l, short(len(x.Outs)))
	for _, out := range x.Outs {
		l = append(l, binary.LittleEndian.AppendUint64(nil, out.Value), bytes.Clone(out.Lock[:]))
	}
	return l
}

// wire is a transaction's bytes, by the library.
func wire(x api.Tx) []byte {
	return slices.Concat(fields(x)...)
}

// twice is the sum of the bytes' sum, by the library.
func twice(b []byte) api.Hash {
	once := sha256.Sum256(b)
	return sha256.Sum256(once[:])
}

// plain is a transaction, told by each of its fields; lists that are nil or empty are one.
func plain(x api.Tx) string {
	return fmt.Sprintf("%d %x %x", x.Version, x.Ins, x.Outs)
}

// zero says whether nothing stands in a transaction.
func zero(x api.Tx) bool {
	return x.Version == 0 && len(x.Ins) == 0 && len(x.Outs) == 0
}

// formedOnes are transactions with a form, of all kinds, at the limits too; not all of them pass Check.
func formedOnes() []api.Tx {
	l := []api.Tx{
		good(),
		{},
		{Version: 1},
		{Version: math.MaxUint32, Ins: []api.In{}, Outs: []api.Out{}},
		{Ins: []api.In{{}}},
		{Ins: []api.In{{Key: []byte{}}, {Key: []byte{0}}, {Key: nil}}},
		{Outs: []api.Out{{}, {Value: math.MaxUint64}, {Value: api.MaxMoney + 1}}},
		{Version: 1 << 31, Ins: []api.In{{From: api.Point{N: math.MaxUint32}}, {From: api.Point{N: math.MaxUint32}}}},
	}
	for n := range api.MaxIns + 1 {
		for m := range api.MaxOuts + 1 {
			l = append(l, api.Tx{Version: uint32(n*m) << 20, Ins: ins(n, 9*m%65), Outs: outs(m)})
		}
	}
	for size := range api.MaxWitness + 1 {
		l = append(l, api.Tx{Version: uint32(size), Ins: ins(2, size), Outs: outs(1)})
	}
	return append(l, api.Tx{Version: 7, Ins: ins(api.MaxIns, api.MaxWitness), Outs: outs(api.MaxOuts)})
}

// formless are transactions without a form, each by one limit, and by several; otherwise they would pass Check, or not.
func formless() []api.Tx {
	l := []api.Tx{
		turned(func(x *api.Tx) { x.Ins = ins(9, 5) }),
		turned(func(x *api.Tx) { x.Ins = ins(300, 0) }),
		turned(func(x *api.Tx) { x.Outs = outs(9) }),
		turned(func(x *api.Tx) { x.Outs = outs(300) }),
		turned(func(x *api.Tx) { x.Ins, x.Outs = ins(9, 65), outs(9) }),
		turned(func(x *api.Tx) { x.Ins[0].Key = make([]byte, 1<<20) }),
		{Ins: make([]api.In, 9)},
		{Outs: make([]api.Out, 9)},
		{Ins: []api.In{{Key: make([]byte, 65)}}},
		{Ins: make([]api.In, 1<<16+1), Outs: make([]api.Out, 1<<16+1)},
	}
	for n := 1; n <= api.MaxIns; n++ {
		for i := range n {
			x := api.Tx{Ins: ins(n, 64), Outs: outs(8)}
			x.Ins[i].Key = some(65, 1)
			l = append(l, x)
		}
	}
	return l
}

// roomy is a copy of b with spare room that is filled.
func roomy(b []byte) []byte {
	w := bytes.Repeat([]byte{0xaa}, len(b)+64)
	copy(w, b)
	return w[:len(b)]
}

// untouched says whether w, of roomy(b), and its spare room are as they were.
func untouched(w, b []byte) bool {
	all := w[:len(b)+64]
	return bytes.Equal(all[:len(b)], b) && bytes.Equal(all[len(b):], bytes.Repeat([]byte{0xaa}, 64))
}

// spread is a copy of a transaction whose lists all have spare room that is filled.
func spread(x api.Tx) api.Tx {
	y := api.Tx{Version: x.Version}
	for _, in := range x.Ins {
		y.Ins = append(y.Ins, api.In{From: in.From, Key: roomy(in.Key)})
	}
	y.Ins = append(y.Ins, ins(2, 1)...)[:len(x.Ins)]
	y.Outs = append(slices.Clone(x.Outs), outs(2)...)[:len(x.Outs)]
	return y
}

// spreadStays says whether y, of spread(x), and its spare room are as they were.
func spreadStays(y, x api.Tx) bool {
	n, m := len(x.Ins), len(x.Outs)
	for i, in := range y.Ins {
		if in.From != x.Ins[i].From || !untouched(in.Key, x.Ins[i].Key) {
			return false
		}
	}
	return y.Version == x.Version && len(y.Ins) == n && slices.Equal(y.Outs, x.Outs) &&
		reflect.DeepEqual(y.Ins[:n+2][n:], ins(2, 1)) && slices.Equal(y.Outs[:m+2][m:], outs(2))
}

// spoil overwrites bytes, their spare room too.
func spoil(b []byte) {
	b = b[:cap(b)]
	for i := range b {
		b[i] ^= 0xff
	}
}

// gotError fails unless Get and Whole tell just that error of b.
func gotError(t *testing.T, b []byte, e api.Errno, what ...any) {
	t.Helper()
	if x, n, got := Get(b); got != e || n != 0 || !zero(x) {
		t.Errorf("Get of %x: %d bytes, %s, error %d, not %d; %v", b, n, plain(x), got, e, what)
	}
	if x, got := Whole(b); got != e || !zero(x) {
		t.Errorf("Whole of %x: %s, error %d, not %d; %v", b, plain(x), got, e, what)
	}
}

// The chapter's examples.
func TestExamples(t *testing.T) {
	x := api.Tx{Version: 1}
	if b, e := Put(x); e != api.OK || !bytes.Equal(b, raw("01 00 00 00 00 00")) {
		t.Errorf("%x %d", b, e)
	}
	if e := Check(x); e != api.ErrNone {
		t.Error(e)
	}
	gotError(t, raw("01 00 00 00 09"), api.ErrLong)
	gotError(t, raw("01 00 00 00 01 05"), api.ErrShort)
}

// P7.1: each field where it stands, numbers with their lowest bits first.
func TestPutFields(t *testing.T) {
	x := api.Tx{
		Version: 0x01020304,
		Ins: []api.In{
			{From: api.Point{Tx: api.Hash{0: 0xa0, 31: 0xa1}, N: 0x05060708}, Key: []byte("key")},
			{From: api.Point{Tx: api.Hash{0: 0xb0, 31: 0xb1}}},
		},
		Outs: []api.Out{{Value: 0x090a0b0c0d0e0f10, Lock: api.Hash{0: 0xc0, 31: 0xc1}}},
	}
	thirty := strings.Repeat("00", 30)
	want := raw("04030201 02" +
		"a0" + thirty + "a1 08070605 03 6b6579" +
		"b0" + thirty + "b1 00000000 00" +
		"01 100f0e0d0c0b0a09 c0" + thirty + "c1")
	if b, e := Put(x); e != api.OK || !bytes.Equal(b, want) {
		t.Errorf("%x, not %x; %d", b, want, e)
	}
}

// P7.1: of every transaction with a form, whatever else it is.
func TestPut(t *testing.T) {
	for i, x := range formedOnes() {
		want := wire(x)
		if b, e := Put(x); e != api.OK || !bytes.Equal(b, want) {
			t.Errorf("%d: %x, not %x; %d", i, b, want, e)
		}
		if n, e := Size(x); e != api.OK || n != len(want) {
			t.Errorf("%d: size %d, not %d; %d", i, n, len(want), e)
		}
		if id, e := Id(x); e != api.OK || id != twice(want) {
			t.Errorf("%d: id %x, not %x; %d", i, id, twice(want), e)
		}
	}
}

// P7.1: the longest one has 1134 bytes, the shortest one 6.
func TestSizes(t *testing.T) {
	if n, e := Size(api.Tx{Ins: ins(8, 64), Outs: outs(8)}); e != api.OK || n != 4+1+8*(32+4+1+64)+1+8*(8+32) {
		t.Error(n, e)
	}
	if n, e := Size(api.Tx{}); e != api.OK || n != 6 {
		t.Error(n, e)
	}
}

// P7.1, P7.4: without a form ErrLong, and nothing beside it.
func TestPutLong(t *testing.T) {
	for i, x := range formless() {
		if b, e := Put(x); e != api.ErrLong || len(b) != 0 {
			t.Errorf("%d: Put %x %d", i, b, e)
		}
		if n, e := Size(x); e != api.ErrLong || n != 0 {
			t.Errorf("%d: Size %d %d", i, n, e)
		}
		if id, e := Id(x); e != api.ErrLong || id != (api.Hash{}) {
			t.Errorf("%d: Id %x %d", i, id, e)
		}
		if l, e := Coins(x); e != api.ErrLong || len(l) != 0 {
			t.Errorf("%d: Coins %v %d", i, l, e)
		}
	}
}

// P7.1: the id tells every byte of a transaction: the Keys', too.
func TestIds(t *testing.T) {
	seen := map[api.Hash]int{}
	l := []api.Tx{
		good(),
		turned(func(x *api.Tx) { x.Version++ }),
		turned(func(x *api.Tx) { x.Ins[2].Key[4]++ }),
		turned(func(x *api.Tx) { x.Ins[2].Key = x.Ins[2].Key[:4] }),
		turned(func(x *api.Tx) { x.Ins[0].Key = nil }),
		turned(func(x *api.Tx) { x.Ins[0], x.Ins[1] = x.Ins[1], x.Ins[0] }),
		turned(func(x *api.Tx) { x.Outs[0], x.Outs[1] = x.Outs[1], x.Outs[0] }),
		turned(func(x *api.Tx) { x.Ins, x.Outs = nil, nil }),
	}
	for i, x := range l {
		id, e := Id(x)
		if before, there := seen[id]; there || e != api.OK {
			t.Error(before, i, e)
		}
		seen[id] = i
	}
}

// P7.2: a transaction, with anything behind it.
func TestGet(t *testing.T) {
	for i, x := range formedOnes() {
		b := wire(x)
		for _, tail := range [][]byte{nil, {0}, {9}, {0xff}, some(50, 1), b} {
			got, n, e := Get(slices.Concat(b, tail))
			if e != api.OK || n != len(b) || plain(got) != plain(x) {
				t.Errorf("%d, %d behind: %s, not %s; %d of %d bytes, %d", i, len(tail), plain(got), plain(x), n, len(b), e)
			}
			got, e = Whole(slices.Concat(b, tail))
			switch {
			case len(tail) == 0 && (e != api.OK || plain(got) != plain(x)):
				t.Errorf("%d whole: %s, not %s; %d", i, plain(got), plain(x), e)
			case len(tail) > 0 && (e != api.ErrLong || !zero(got)):
				t.Errorf("%d, %d behind: %s %d", i, len(tail), plain(got), e)
			}
		}
	}
}

// P7.2: cut off anywhere, it is too short.
func TestCut(t *testing.T) {
	for i, x := range formedOnes() {
		b := wire(x)
		for k := range b {
			gotError(t, b[:k], api.ErrShort, i)
		}
	}
	gotError(t, nil, api.ErrShort)
	gotError(t, []byte{}, api.ErrShort)
}

// counts are the places of fields that are counts or lengths.
func counts(x api.Tx) []int {
	l := []int{1}
	at := 2
	for range x.Ins {
		l = append(l, at+2)
		at += 4
	}
	return append(l, at)
}

// limit is the limit of what stands at that place of fields.
func limit(x api.Tx, place int) int {
	if slices.Contains([]int{1, 2 + 4*len(x.Ins)}, place) {
		return 8
	}
	return 64
}

// P7.2: a count or a length in all its forms, at all its places: the error is told as soon as it is read, whatever stands behind it, or doesn't.
func TestCounts(t *testing.T) {
	for _, x := range []api.Tx{good(), {}, {Ins: ins(8, 64), Outs: outs(8)}, {Ins: ins(1, 0)}, {Ins: ins(2, 1), Outs: outs(1)}} {
		l := fields(x)
		for _, place := range counts(x) {
			ahead := slices.Concat(l[:place]...)
			behind := slices.Concat(l[place+1:]...)
			most := limit(x, place)
			for _, y := range []struct {
				count []byte
				e     api.Errno
			}{
				{short(most + 1), api.ErrLong},
				{short(most + 2), api.ErrLong},
				{[]byte{252}, api.ErrLong},
				{raw("fd fd 00"), api.ErrLong},
				{raw("fd ff ff"), api.ErrLong},
				{raw("fe 00 00 01 00"), api.ErrLong},
				{raw("fe ff ff ff ff"), api.ErrLong},
				{raw("ff 00 00 00 00 01 00 00 00"), api.ErrLong},
				{raw("ff 00 00 00 00 00 00 00 80"), api.ErrLong},
				{raw("ff ff ff ff ff ff ff ff ff"), api.ErrLong},
				// Its lowest bits alone would be within the limit.
				{raw("fd 00 01"), api.ErrLong},
				{raw("fe 01 00 01 00"), api.ErrLong},
				{raw("ff 01 00 00 00 01 00 00 00"), api.ErrLong},
				// Not as short as may be, within the limit and above it.
				{[]byte{253, byte(len(x.Ins)), 0}, api.ErrForm},
				{[]byte{253, byte(most + 1), 0}, api.ErrForm},
				{raw("fd 00 00"), api.ErrForm},
				{raw("fd fc 00"), api.ErrForm},
				{raw("fe 01 00 00 00"), api.ErrForm},
				{raw("fe ff ff 00 00"), api.ErrForm},
				{raw("ff 01 00 00 00 00 00 00 00"), api.ErrForm},
				{raw("ff ff ff ff ff 00 00 00 00"), api.ErrForm},
			} {
				for _, tail := range [][]byte{nil, {0}, behind, some(3000, 1)} {
					gotError(t, slices.Concat(ahead, y.count, tail), y.e, place, len(tail))
				}
				for k := range y.count {
					gotError(t, slices.Concat(ahead, y.count[:k]), api.ErrShort, place, k)
				}
			}
		}
	}
}

// P7.2: a count at its limit is no error of its own.
func TestCountAtLimit(t *testing.T) {
	gotError(t, raw("01 00 00 00 08"), api.ErrShort)
	gotError(t, raw("01 00 00 00 00 08"), api.ErrShort)
	head := slices.Concat(raw("01 00 00 00 01"), make([]byte, 36), []byte{64})
	for n := range 64 {
		gotError(t, slices.Concat(head, make([]byte, n)), api.ErrShort, n)
	}
	x, n, e := Get(slices.Concat(head, some(64, 1), []byte{0}))
	if e != api.OK || n != 5+37+64+1 || len(x.Ins) != 1 || !bytes.Equal(x.Ins[0].Key, some(64, 1)) || len(x.Outs) != 0 {
		t.Error(plain(x), n, e)
	}
}

// P7.2: of several errors the one that stands first in the bytes.
func TestFirstError(t *testing.T) {
	point := make([]byte, 36)
	for i, x := range []struct {
		b []byte
		e api.Errno
	}{
		{slices.Concat(raw("01 00 00 00 02"), point, []byte{65}, raw("fd 00 00")), api.ErrLong},
		{slices.Concat(raw("01 00 00 00 02"), point, raw("fd 41 00"), []byte{9}), api.ErrForm},
		{slices.Concat(raw("01 00 00 00 02"), point, []byte{0}, point, []byte{65}), api.ErrLong},
		{slices.Concat(raw("01 00 00 00 02"), point, []byte{0}, point[1:]), api.ErrShort},
		{slices.Concat(raw("01 00 00 00 02"), point, []byte{1, 0}, point, raw("fe 00 00 00 00 09")), api.ErrForm},
		{slices.Concat(raw("01 00 00 00 01"), point, []byte{0}, []byte{9}), api.ErrLong},
		{slices.Concat(raw("01 00 00 00 01"), point, []byte{0}, raw("fd 09 00")), api.ErrForm},
		{raw("01 00 00 00 09 fd 00 00"), api.ErrLong},
		{raw("01 00 00 00 fd 09 00 09"), api.ErrForm},
		// Outputs that are cut off, ahead of bytes that could be left behind.
		{slices.Concat(raw("01 00 00 00 00 02"), make([]byte, 79)), api.ErrShort},
	} {
		gotError(t, x.b, x.e, i)
	}
}

// P7.3
func TestCheck(t *testing.T) {
	value := func(l ...uint64) api.Tx {
		return turned(func(x *api.Tx) {
			x.Outs = nil
			for _, v := range l {
				x.Outs = append(x.Outs, api.Out{Value: v})
			}
		})
	}
	const max, all = api.MaxMoney, math.MaxUint64
	for i, x := range []struct {
		x api.Tx
		e api.Errno
	}{
		{good(), api.OK},
		{turned(func(x *api.Tx) { x.Version = 0 }), api.OK},
		{turned(func(x *api.Tx) { x.Version = math.MaxUint32 }), api.OK},
		{turned(func(x *api.Tx) { x.Ins = ins(8, 64); x.Outs = slices.Repeat([]api.Out{{Value: max / 8}}, 8) }), api.OK},
		{turned(func(x *api.Tx) { x.Ins = ins(1, 0) }), api.OK},
		{api.Tx{}, api.ErrNone},
		{turned(func(x *api.Tx) { x.Ins = nil }), api.ErrNone},
		{turned(func(x *api.Tx) { x.Ins = []api.In{} }), api.ErrNone},
		{turned(func(x *api.Tx) { x.Outs = nil }), api.ErrNone},
		{turned(func(x *api.Tx) { x.Outs = []api.Out{} }), api.ErrNone},
		{value(0), api.ErrMoney},
		{value(1), api.OK},
		{value(max), api.OK},
		{value(max + 1), api.ErrMoney},
		{value(all), api.ErrMoney},
		{value(1, 0), api.ErrMoney},
		{value(0, 1, 1), api.ErrMoney},
		{value(1, 0, 1), api.ErrMoney},
		{value(max, 0), api.ErrMoney},
		{value(1, max+1), api.ErrMoney},
		{value(1, 1, 1, 1, 1, 1, 1, max+1), api.ErrMoney},
		{value(max-1, 1), api.OK},
		{value(max, 1), api.ErrMoney},
		{value(1, max), api.ErrMoney},
		{value(max/2, max/2), api.OK},
		{value(max/2, max/2, 1), api.ErrMoney},
		{value(max/2+1, max/2), api.ErrMoney},
		{value(max, max, max, max, max, max, max, max), api.ErrMoney},
		{value(1, 1, 1, 1, 1, 1, 1, max-7), api.OK},
		{value(1, 1, 1, 1, 1, 1, 1, max-6), api.ErrMoney},
		// Sums that go round, back to what could be.
		{value(all, 2), api.ErrMoney},
		{value(2, all), api.ErrMoney},
		{value(1<<63, 1<<63, 1), api.ErrMoney},
		{value(1<<62, 1<<62, 1<<62, 1<<62, 5), api.ErrMoney},
		{value(1<<61, 1<<61, 1<<61, 1<<61, 1<<61, 1<<61, 1<<61, 1<<61), api.ErrMoney},
		{value(all-max+1, max), api.ErrMoney},
	} {
		if e := Check(x.x); e != x.e {
			t.Errorf("%d: %d, not %d", i, e, x.e)
		}
	}
}

// P7.3: two inputs that spend one point, wherever they stand, whatever their Keys; and points that differ a little.
func TestTwice(t *testing.T) {
	for n := 2; n <= api.MaxIns; n++ {
		for i := range n {
			for k := range i {
				x := turned(func(x *api.Tx) { x.Ins = ins(n, 3) })
				if e := Check(x); e != api.OK {
					t.Error(n, e)
				}
				x.Ins[i].From = x.Ins[k].From
				if e := Check(x); e != api.ErrTwice {
					t.Error(n, i, k, e)
				}
				x.Ins[i].Key = bytes.Clone(x.Ins[k].Key)
				if e := Check(x); e != api.ErrTwice {
					t.Error(n, i, k, "one key", e)
				}
				x.Ins[i].From.N++
				if e := Check(x); e != api.OK {
					t.Error(n, i, k, "another N", e)
				}
				x.Ins[i].From = x.Ins[k].From
				x.Ins[i].From.Tx[31]++
				if e := Check(x); e != api.OK {
					t.Error(n, i, k, "another Tx", e)
				}
			}
		}
	}
	x := turned(func(x *api.Tx) { x.Ins = make([]api.In, 2) })
	if e := Check(x); e != api.ErrTwice {
		t.Error("zero points", e)
	}
}

// P7.3: each bit of a point, and nothing else, makes it another one.
func TestTwiceBits(t *testing.T) {
	for i := range 288 {
		x := turned(func(x *api.Tx) { x.Ins = []api.In{x.Ins[0], x.Ins[0]} })
		if i < 256 {
			x.Ins[1].From.Tx[i/8] ^= 1 << (i % 8)
		} else {
			x.Ins[1].From.N ^= 1 << (i - 256)
		}
		if e := Check(x); e != api.OK {
			t.Error(i, e)
		}
	}
}

// P7.3: which error comes first where several would.
func TestCheckOrder(t *testing.T) {
	long := func(x *api.Tx) { x.Ins[2].Key = make([]byte, 65) }
	many := func(x *api.Tx) { x.Outs = make([]api.Out, 9) }
	noIns := func(x *api.Tx) { x.Ins = nil }
	noOuts := func(x *api.Tx) { x.Outs = nil }
	money := func(x *api.Tx) { x.Outs[1].Value = 0 }
	twice := func(x *api.Tx) { x.Ins[1].From = x.Ins[0].From }
	for i, y := range []struct {
		l []func(x *api.Tx)
		e api.Errno
	}{
		{[]func(x *api.Tx){long, noOuts}, api.ErrLong},
		{[]func(x *api.Tx){long, money}, api.ErrLong},
		{[]func(x *api.Tx){long, twice}, api.ErrLong},
		{[]func(x *api.Tx){many, noIns}, api.ErrLong},
		{[]func(x *api.Tx){many, twice}, api.ErrLong},
		{[]func(x *api.Tx){noIns, money}, api.ErrNone},
		{[]func(x *api.Tx){noOuts, twice}, api.ErrNone},
		{[]func(x *api.Tx){noIns, noOuts}, api.ErrNone},
		{[]func(x *api.Tx){money, twice}, api.ErrMoney},
		{[]func(x *api.Tx){twice}, api.ErrTwice},
	} {
		x := good()
		for _, f := range y.l {
			f(&x)
		}
		if e := Check(x); e != y.e {
			t.Errorf("%d: %d, not %d", i, e, y.e)
		}
	}
	for i, x := range formless() {
		if e := Check(x); e != api.ErrLong {
			t.Error(i, e)
		}
	}
}

// P7.4: of any transaction, without a form too; two that are one stay two.
func TestPoints(t *testing.T) {
	l := append(formedOnes(), formless()...)
	l = append(l, turned(func(x *api.Tx) { x.Ins = slices.Repeat(x.Ins, 200) }))
	for i, x := range l {
		got := Points(x)
		if len(got) != len(x.Ins) {
			t.Error(i, len(got), len(x.Ins))
			continue
		}
		for k, p := range got {
			if p != x.Ins[k].From {
				t.Error(i, k, p)
			}
		}
	}
}

// P7.4: also of one that Check refuses.
func TestCoins(t *testing.T) {
	for i, x := range formedOnes() {
		l, e := Coins(x)
		if e != api.OK || len(l) != len(x.Outs) {
			t.Error(i, len(l), e)
			continue
		}
		id := twice(wire(x))
		for k, c := range l {
			if c != (api.Coin{At: api.Point{Tx: id, N: uint32(k)}, Out: x.Outs[k]}) {
				t.Error(i, k, c)
			}
		}
	}
}

// P7.4: each field tells, however little it differs.
func TestSame(t *testing.T) {
	others := []api.Tx{
		{},
		turned(func(x *api.Tx) { x.Version ^= 1 << 31 }),
		turned(func(x *api.Tx) { x.Version++ }),
		turned(func(x *api.Tx) { x.Ins = x.Ins[:2] }),
		turned(func(x *api.Tx) { x.Ins = x.Ins[1:] }),
		turned(func(x *api.Tx) { x.Ins = nil }),
		turned(func(x *api.Tx) { x.Ins = append(x.Ins, api.In{}) }),
		turned(func(x *api.Tx) { x.Ins[0], x.Ins[1] = x.Ins[1], x.Ins[0] }),
		turned(func(x *api.Tx) { x.Outs = x.Outs[:2] }),
		turned(func(x *api.Tx) { x.Outs = x.Outs[1:] }),
		turned(func(x *api.Tx) { x.Outs = nil }),
		turned(func(x *api.Tx) { x.Outs = append(x.Outs, api.Out{}) }),
		turned(func(x *api.Tx) { x.Outs[0], x.Outs[1] = x.Outs[1], x.Outs[0] }),
	}
	for i := range 3 {
		others = append(others,
			turned(func(x *api.Tx) { x.Ins[i].From.Tx[0]++ }),
			turned(func(x *api.Tx) { x.Ins[i].From.Tx[31]++ }),
			turned(func(x *api.Tx) { x.Ins[i].From.N++ }),
			turned(func(x *api.Tx) { x.Ins[i].From.N ^= 1 << 31 }),
			turned(func(x *api.Tx) { x.Ins[i].Key[0]++ }),
			turned(func(x *api.Tx) { x.Ins[i].Key[4]++ }),
			turned(func(x *api.Tx) { x.Ins[i].Key = x.Ins[i].Key[:4] }),
			turned(func(x *api.Tx) { x.Ins[i].Key = append(x.Ins[i].Key, 0) }),
			turned(func(x *api.Tx) { x.Ins[i].Key = nil }),
			turned(func(x *api.Tx) { x.Outs[i].Value++ }),
			turned(func(x *api.Tx) { x.Outs[i].Value ^= 1 << 63 }),
			turned(func(x *api.Tx) { x.Outs[i].Lock[0]++ }),
			turned(func(x *api.Tx) { x.Outs[i].Lock[31]++ }),
		)
	}
	if !Same(good(), good()) {
		t.Error("not the same as itself")
	}
	for i, x := range others {
		if Same(good(), x) || Same(x, good()) || !Same(x, x) {
			t.Error(i)
		}
	}
}

// P7.4: lists that are nil and lists that are empty are one; of any transactions, without a form too.
func TestSameLists(t *testing.T) {
	nils := []api.Tx{{}, {Ins: []api.In{{}}}, {Ins: []api.In{{Key: nil}, {Key: []byte("k")}}, Outs: outs(1)}}
	empties := []api.Tx{{Ins: []api.In{}, Outs: []api.Out{}}, {Ins: []api.In{{Key: []byte{}}}, Outs: []api.Out{}}, {Ins: []api.In{{Key: []byte{}}, {Key: []byte("k")}}, Outs: outs(1)}}
	for i := range nils {
		for k := range empties {
			if Same(nils[i], empties[k]) != (i == k) || Same(empties[k], nils[i]) != (i == k) {
				t.Error(i, k)
			}
		}
		a, e := Put(nils[i])
		b, f := Put(empties[i])
		if e != api.OK || f != api.OK || !bytes.Equal(a, b) {
			t.Errorf("%d: %x %x", i, a, b)
		}
	}
	for i, x := range formless() {
		if !Same(x, spread(x)) || Same(x, good()) {
			t.Error(i)
		}
	}
}

// P7.5: what is put is read.
func TestPutIsRead(t *testing.T) {
	r := rand.New(rand.NewSource(1))
	for range 3000 {
		x := api.Tx{Version: r.Uint32()}
		for range r.Intn(9) {
			x.Ins = append(x.Ins, api.In{From: api.Point{Tx: hash(r.Int63()), N: r.Uint32() >> r.Intn(33)}, Key: some(r.Intn(65), r.Int63())})
		}
		for range r.Intn(9) {
			x.Outs = append(x.Outs, api.Out{Value: r.Uint64() >> r.Intn(65), Lock: hash(r.Int63())})
		}
		b, e := Put(x)
		if e != api.OK {
			t.Fatal(plain(x), e)
		}
		y, n, e := Get(b)
		if e != api.OK || n != len(b) || !Same(x, y) || plain(x) != plain(y) {
			t.Fatal(plain(x), plain(y), n, e)
		}
		if z, e := Whole(b); e != api.OK || !Same(x, z) {
			t.Fatal(plain(x), plain(z), e)
		}
	}
}

// P7.5: bytes that are read, put again, are the same; bytes of any kind, and such as nearly are a transaction.
func TestReadIsPut(t *testing.T) {
	r := rand.New(rand.NewSource(2))
	read := 0
	for i := range 15000 {
		var b []byte
		switch i % 3 {
		case 0:
			b = wire(api.Tx{Version: r.Uint32(), Ins: ins(r.Intn(9), r.Intn(65)), Outs: outs(r.Intn(9))})
			for range 1 + r.Intn(3) {
				b[r.Intn(len(b))] ^= 1 << r.Intn(8)
			}
		case 1:
			b = make([]byte, r.Intn(400))
			for range r.Intn(10) {
				if len(b) > 0 {
					b[r.Intn(len(b))] = byte(r.Intn(10))
				}
			}
		default:
			b = some(r.Intn(200), r.Int63())
		}
		x, n, e := Get(b)
		if e != api.OK {
			if n != 0 || !zero(x) {
				t.Fatalf("%x: %d %s", b, n, plain(x))
			}
			continue
		}
		read++
		if again, e := Put(x); e != api.OK || !bytes.Equal(again, b[:n]) {
			t.Fatalf("%x, put again: %x %d", b[:n], again, e)
		}
	}
	if read < 2000 {
		t.Error("too few could be read:", read)
	}
}

// What is handed in is not changed: neither lists, nor their spare room.
func TestUntouched(t *testing.T) {
	for i, x := range append(formedOnes(), formless()...) {
		y, z := spread(x), spread(x)
		Put(y)
		Id(y)
		Size(y)
		Check(y)
		Points(y)
		Coins(y)
		Same(y, z)
		if !spreadStays(y, x) || !spreadStays(z, x) {
			t.Error(i)
		}
		b := wire(x)
		w := roomy(b)
		Get(w)
		Whole(w)
		if !untouched(w, b) {
			t.Error(i, "bytes")
		}
	}
}

// The bytes that are put are new memory.
func TestPutNew(t *testing.T) {
	for i, x := range formedOnes() {
		y := spread(x)
		a, _ := Put(y)
		b, _ := Put(y)
		spoil(a)
		if !spreadStays(y, x) || !bytes.Equal(b, wire(x)) {
			t.Error(i)
		}
	}
}

// A transaction that is read is new memory: it shares none with the bytes, with another answer, and no two of its lists share any.
func TestGetNew(t *testing.T) {
	for i, x := range formedOnes() {
		b := wire(x)
		w := roomy(b)
		y, _, _ := Get(w)
		z, _ := Whole(w)
		for k := range y.Ins {
			spoil(y.Ins[k].Key)
			for m := k + 1; m < len(y.Ins); m++ {
				if !bytes.Equal(y.Ins[m].Key, x.Ins[m].Key) {
					t.Error(i, k, m, "keys share")
				}
			}
		}
		clear(y.Ins[:cap(y.Ins)])
		clear(y.Outs[:cap(y.Outs)])
		if !untouched(w, b) || plain(z) != plain(x) {
			t.Error(i, "shared")
		}
		spoil(w)
		if plain(z) != plain(x) {
			t.Error(i, "kept")
		}
	}
}

// Points and Coins are new memory.
func TestListsNew(t *testing.T) {
	for i, x := range formedOnes() {
		y := spread(x)
		p, q := Points(y), Points(y)
		c, _ := Coins(y)
		d, _ := Coins(y)
		want := slices.Clone(d)
		for k := range p[:cap(p)] {
			p[:cap(p)][k].N++
		}
		clear(c[:cap(c)])
		if !spreadStays(y, x) || !slices.Equal(q, Points(x)) || !slices.Equal(d, want) {
			t.Error(i)
		}
	}
}
