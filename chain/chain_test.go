package chain

import (
	"bytes"
	"cmp"
	"crypto/sha256"
	"encoding/binary"
	"math"
	"math/rand"
	"reflect"
	"slices"
	"testing"

	"pappus/api"
	"pappus/fee"
	"pappus/tx"
)

// out is so much for whoever has the key of one byte.
func out(v uint64, key byte) api.Out {
	return api.Out{Value: v, Lock: sha256.Sum256([]byte{key})}
}

// first are n first outputs, each of Value 1000 for key 1.
func first(n int) []api.Out {
	return slices.Repeat([]api.Out{out(1000, 1)}, n)
}

// nth is the point of the n-th first output.
func nth(n int) api.Point {
	return api.Point{N: uint32(n)}
}

// in spends a point by the key of one byte.
func in(p api.Point, key byte) api.In {
	return api.In{From: p, Key: []byte{key}}
}

// pay spends a point of key 1.
func pay(p api.Point, outs ...api.Out) api.Tx {
	return api.Tx{Ins: []api.In{in(p, 1)}, Outs: outs}
}

// idOf is a transaction's id, which must have one.
func idOf(x api.Tx) api.Hash {
	id, e := tx.Id(x)
	if e != api.OK {
		panic("no form")
	}
	return id
}

// made is the point of a transaction's n-th output.
func made(x api.Tx, n int) api.Point {
	return api.Point{Tx: idOf(x), N: uint32(n)}
}

// paid is the point of a block's n-th payment.
func paid(b api.Block, n int) api.Point {
	return api.Point{Tx: nameOf(b), N: uint32(n)}
}

// nameOf is a block's id, put together by the library; no block has so many of anything that its count isn't one byte.
func nameOf(b api.Block) api.Hash {
	l := binary.LittleEndian.AppendUint64(nil, b.Tag)
	l = append(l, byte(len(b.Pay)))
	for _, o := range b.Pay {
		l = binary.LittleEndian.AppendUint64(l, o.Value)
		l = append(l, o.Lock[:]...)
	}
	l = append(l, byte(len(b.Txs)))
	for _, x := range b.Txs {
		id := idOf(x)
		l = append(l, id[:]...)
	}
	once := sha256.Sum256(l)
	return sha256.Sum256(once[:])
}

// of is a block of transactions alone.
func of(l ...api.Tx) api.Block { return api.Block{Txs: l} }

// paying is a block of payments alone.
func paying(l ...api.Out) api.Block { return api.Block{Pay: l} }

// model is a chain as a plain list of blocks: what they leave is told anew each time, from the first outputs on.
type model struct {
	first  []api.Out
	blocks []api.Block
}

// left is what blocks leave, as plain lists; was are all points that ever were.
type left struct {
	coins []api.Coin
	done  []api.Hash
	was   []api.Point
}

func (l *left) at(p api.Point) int {
	return slices.IndexFunc(l.coins, func(c api.Coin) bool { return c.At == p })
}

func (l *left) put(id api.Hash, outs []api.Out) bool {
	for i := range outs {
		if l.at(api.Point{Tx: id, N: uint32(i)}) >= 0 {
			return false
		}
	}
	for i, o := range outs {
		p := api.Point{Tx: id, N: uint32(i)}
		l.coins = append(l.coins, api.Coin{At: p, Out: o})
		l.was = append(l.was, p)
	}
	return true
}

// spend is what the document says of a transaction; after an error the lists are spoilt.
func (l *left) spend(x api.Tx) api.Errno {
	if e := tx.Check(x); e != api.OK {
		return e
	}
	id := idOf(x)
	if slices.Contains(l.done, id) {
		return api.ErrDone
	}
	var prev []api.Out
	for _, i := range x.Ins {
		j := l.at(i.From)
		if j < 0 {
			return api.ErrLost
		}
		prev = append(prev, l.coins[j].Out)
	}
	if _, e := fee.Of(x, prev); e != api.OK {
		return e
	}
	for _, i := range x.Ins {
		j := l.at(i.From)
		l.coins = slices.Delete(l.coins, j, j+1)
	}
	if !l.put(id, x.Outs) {
		return api.ErrThere
	}
	l.done = append(l.done, id)
	return api.OK
}

// lay is what the document says of a block with a form, for those that are laid already.
func (l *left) lay(b api.Block) api.Errno {
	for _, o := range b.Pay {
		if o.Value == 0 || o.Value > api.MaxMoney {
			return api.ErrMoney
		}
	}
	for _, x := range b.Txs {
		if e := l.spend(x); e != api.OK {
			return e
		}
	}
	if !l.put(nameOf(b), b.Pay) {
		return api.ErrThere
	}
	return api.OK
}

func (m *model) left() left {
	var l left
	l.put(api.Hash{}, m.first)
	for _, b := range m.blocks {
		if e := l.lay(b); e != api.OK {
			panic("such a block isn't in the list")
		}
	}
	slices.SortFunc(l.coins, func(a, b api.Coin) int {
		return cmp.Or(bytes.Compare(a.At.Tx[:], b.At.Tx[:]), cmp.Compare(a.At.N, b.At.N))
	})
	return l
}

func shaped(b api.Block) bool {
	if len(b.Pay) > api.MaxOuts || len(b.Txs) > api.MaxBlock {
		return false
	}
	return !slices.ContainsFunc(b.Txs, func(x api.Tx) bool { _, e := tx.Put(x); return e != api.OK })
}

// connect is what the document says of Connect.
func (m *model) connect(b api.Block) api.Errno {
	if len(m.blocks) >= api.MaxHeight {
		return api.ErrFull
	}
	if !shaped(b) {
		return api.ErrLong
	}
	l := m.left()
	if e := l.lay(b); e != api.OK {
		return e
	}
	m.blocks = append(m.blocks, cloned(b))
	return api.OK
}

// cloned is a block that shares nothing with b.
func cloned(b api.Block) api.Block {
	b.Pay, b.Txs = slices.Clone(b.Pay), slices.Clone(b.Txs)
	for i, x := range b.Txs {
		x.Ins, x.Outs = slices.Clone(x.Ins), slices.Clone(x.Outs)
		for j, z := range x.Ins {
			x.Ins[j].Key = slices.Clone(z.Key)
		}
		b.Txs[i] = x
	}
	return b
}

// same says whether two blocks are the same, field by field.
func same(a, b api.Block) bool {
	return a.Tag == b.Tag && slices.Equal(a.Pay, b.Pay) && slices.EqualFunc(a.Txs, b.Txs, tx.Same)
}

// begun is a chain of first outputs, and its model.
func begun(t *testing.T, l ...api.Out) (*Chain, *model) {
	t.Helper()
	c, e := New(l)
	if c == nil || e != api.OK {
		t.Fatal("no chain:", e)
	}
	return c, &model{first: slices.Clone(l)}
}

// grown is a chain of n first outputs with blocks on it, and its model.
func grown(t *testing.T, n int, l ...api.Block) (*Chain, *model) {
	t.Helper()
	c, m := begun(t, first(n)...)
	for i, b := range l {
		connects(t, c, m, b, "block", i)
	}
	return c, m
}

// stands fails unless a chain is what its model is; all its functions must say so.
func stands(t *testing.T, c *Chain, m *model, what ...any) {
	t.Helper()
	l := m.left()
	if n := c.Height(); n != len(m.blocks) {
		t.Errorf("%v: height %d, not %d", what, n, len(m.blocks))
	}
	if got := c.Coins(); !slices.Equal(got, l.coins) {
		t.Errorf("%v: coins %v, not %v", what, got, l.coins)
	}
	for _, z := range l.coins {
		if o, there := c.Find(z.At); !there || o != z.Out {
			t.Errorf("%v: Find(%v): %v, %v", what, z.At, o, there)
		}
	}
	for _, p := range append(l.was, api.Point{N: api.MaxFirst}, api.Point{N: math.MaxUint32}) {
		if o, there := c.Find(p); there != (l.at(p) >= 0) || !there && o != (api.Out{}) {
			t.Errorf("%v: Find(%v): %v, %v", what, p, o, there)
		}
	}
	for _, id := range l.done {
		if !c.Done(id) {
			t.Errorf("%v: %x isn't done", what, id)
		}
	}
	for _, b := range m.blocks {
		if c.Done(nameOf(b)) && !slices.Contains(l.done, nameOf(b)) {
			t.Errorf("%v: a block is done", what)
		}
	}
	if c.Done(api.Hash{}) {
		t.Errorf("%v: no id is done", what)
	}
}

// connects fails unless a block may be connected, to a chain and to its model, and all is so.
func connects(t *testing.T, c *Chain, m *model, b api.Block, what ...any) {
	t.Helper()
	if e := m.connect(b); e != api.OK {
		t.Fatalf("%v: the model says %d", what, e)
	}
	if e := c.Connect(b); e != api.OK {
		t.Fatalf("%v: error %d", what, e)
	}
	stands(t, c, m, what...)
}

// refuses fails unless a block is refused with that error, by the model too, and all is as it was.
func refuses(t *testing.T, c *Chain, m *model, b api.Block, want api.Errno, what ...any) {
	t.Helper()
	if e := m.connect(b); e != want {
		t.Fatalf("%v: the model says %d, not %d", what, e, want)
	}
	done := pending(m, b)
	if e := c.Connect(b); e != want {
		t.Errorf("%v: error %d, not %d", what, e, want)
	}
	stands(t, c, m, what...)
	for _, id := range done {
		if c.Done(id) {
			t.Errorf("%v: done is who was refused", what)
		}
	}
}

// pending are the ids of a block's transactions that stand in no block of the list.
func pending(m *model, b api.Block) []api.Hash {
	l := m.left()
	var ids []api.Hash
	for _, x := range b.Txs {
		if id, e := tx.Id(x); e == api.OK && !slices.Contains(l.done, id) {
			ids = append(ids, id)
		}
	}
	return ids
}

// disconnects fails unless the top block comes off, and all is as it was without it.
func disconnects(t *testing.T, c *Chain, m *model, what ...any) api.Block {
	t.Helper()
	last := len(m.blocks) - 1
	want := m.blocks[last]
	m.blocks = m.blocks[:last]
	got, e := c.Disconnect()
	if e != api.OK || !same(got, want) {
		t.Fatalf("%v: %v, not %v; %d", what, got, want, e)
	}
	stands(t, c, m, what...)
	for _, id := range pending(m, want) {
		if c.Done(id) {
			t.Errorf("%v: done is who was taken off", what)
		}
	}
	return got
}

// The chapter's examples.
func TestExamples(t *testing.T) {
	c, e := New([]api.Out{out(50, 1)})
	want := []api.Coin{{Out: out(50, 1)}}
	if e != api.OK || !slices.Equal(c.Coins(), want) {
		t.Fatal(e, c.Coins())
	}
	if b, e := c.Disconnect(); e != api.ErrNone || !same(b, api.Block{}) {
		t.Error(b, e)
	}
	if e := c.Connect(api.Block{}); e != api.OK || c.Height() != 1 || !slices.Equal(c.Coins(), want) {
		t.Error(e, c.Height(), c.Coins())
	}
}

// P11.1: first outputs, from none to MaxFirst, are there under 32 bytes 0; of more there is no chain.
func TestNew(t *testing.T) {
	for _, n := range []int{0, 1, 2, 3, 100, api.MaxFirst - 1, api.MaxFirst} {
		var l []api.Out
		for i := range n {
			l = append(l, out(uint64(i), byte(i)))
		}
		c, m := begun(t, l...)
		stands(t, c, m, n)
		if got := c.Coins(); len(got) != n || n > 0 && got[n-1] != (api.Coin{At: nth(n - 1), Out: l[n-1]}) {
			t.Error(n, got)
		}
	}
	for _, n := range []int{api.MaxFirst + 1, api.MaxFirst + 2, 2 * api.MaxFirst, 1 << 16} {
		if c, e := New(first(n)); c != nil || e != api.ErrLong {
			t.Error(n, c, e)
		}
	}
	c, m := begun(t, []api.Out{}...)
	stands(t, c, m, "empty")
}

// P11.1: first outputs may be any: Values 0 and more than MaxMoney, and such that are alike.
func TestFirstAny(t *testing.T) {
	c, m := begun(t, api.Out{}, out(0, 1), out(math.MaxUint64, 1), out(api.MaxMoney+1, 1), api.Out{}, out(2, 1))
	stands(t, c, m)
	// What they have counts as it is: their sum may be no number, and theirs may be more than MaxMoney.
	two := api.Tx{Ins: []api.In{in(nth(2), 1), in(nth(5), 1)}, Outs: []api.Out{out(1, 1)}}
	refuses(t, c, m, of(two), api.ErrMoney, "sum")
	refuses(t, c, m, of(pay(nth(1), out(1, 1))), api.ErrMoney, "of nothing")
	refuses(t, c, m, of(pay(nth(0), out(1, 1))), api.ErrLock, "no key has it")
	connects(t, c, m, of(pay(nth(2), out(api.MaxMoney, 1))))
	connects(t, c, m, of(pay(nth(3), out(1, 1))))
}

// blocks are blocks with a form, of all counts.
func blocks() []api.Block {
	var l []api.Block
	for i := range api.MaxOuts + 1 {
		b := api.Block{Tag: math.MaxUint64 - uint64(i)}
		for j := range i {
			b.Pay = append(b.Pay, out(1<<(j*8), byte(i)))
		}
		for j := range 2 * i {
			b.Txs = append(b.Txs, pay(nth(j), out(uint64(i), byte(j))))
		}
		l = append(l, b)
	}
	return l
}

// P11.1: an id is Twice of the tag, the payments and the transactions' ids.
func TestId(t *testing.T) {
	for i, b := range append(blocks(), api.Block{}, api.Block{Tag: 1}, api.Block{Pay: []api.Out{}, Txs: []api.Tx{}}) {
		if id, e := Id(b); e != api.OK || id != nameOf(b) {
			t.Error(i, id, e)
		}
	}
	once := sha256.Sum256(make([]byte, 10))
	if id, e := Id(api.Block{}); e != api.OK || id != sha256.Sum256(once[:]) {
		t.Error(id, e)
	}
	tag := api.Block{Tag: 0x0807060504030201}
	once = sha256.Sum256([]byte{1, 2, 3, 4, 5, 6, 7, 8, 0, 0})
	if id, e := Id(tag); e != api.OK || id != sha256.Sum256(once[:]) {
		t.Error(id, e)
	}
}

// P11.1: a block whose least thing is another one has another id.
func TestIdsDiffer(t *testing.T) {
	base := func() api.Block {
		return api.Block{Tag: 5, Pay: []api.Out{out(5, 1), out(6, 2)}, Txs: []api.Tx{pay(nth(0), out(7, 3)), pay(nth(1), out(8, 4))}}
	}
	seen := map[api.Hash]int{}
	for i, change := range []func(b *api.Block){
		func(b *api.Block) {},
		func(b *api.Block) { b.Tag = 6 },
		func(b *api.Block) { b.Tag = 5 | 1<<63 },
		func(b *api.Block) { b.Pay[0].Value = 4 },
		func(b *api.Block) { b.Pay[1].Value |= 1 << 63 },
		func(b *api.Block) { b.Pay[1].Lock[31] ^= 1 },
		func(b *api.Block) { b.Pay[0], b.Pay[1] = b.Pay[1], b.Pay[0] },
		func(b *api.Block) { b.Pay = b.Pay[:1] },
		func(b *api.Block) { b.Pay = nil },
		func(b *api.Block) { b.Txs[0], b.Txs[1] = b.Txs[1], b.Txs[0] },
		func(b *api.Block) { b.Txs = b.Txs[:1] },
		func(b *api.Block) { b.Txs = nil },
		func(b *api.Block) { b.Txs = append(b.Txs, b.Txs[1]) },
		func(b *api.Block) { b.Txs[1].Version = 9 },
		func(b *api.Block) { b.Txs[1].Ins[0].Key = nil },
		func(b *api.Block) { b.Txs[1].Ins[0].From.N = 9 },
		func(b *api.Block) { b.Txs[0].Outs[0].Lock[0] ^= 1 },
	} {
		b := base()
		change(&b)
		id, e := Id(b)
		if e != api.OK || id != nameOf(b) {
			t.Error(i, id, e)
		}
		if j, there := seen[id]; there {
			t.Error(j, "and", i, "are of one id")
		}
		seen[id] = i
	}
}

// P11.1: an id asks for a form, and for nothing else.
func TestIdOfAny(t *testing.T) {
	odd := api.Tx{Ins: []api.In{in(nth(0), 1), in(nth(0), 1)}, Outs: []api.Out{out(0, 1), out(math.MaxUint64, 1)}}
	for i, b := range []api.Block{
		paying(out(0, 1)), paying(out(math.MaxUint64, 1)), of(api.Tx{}), of(api.Tx{}, api.Tx{}), of(odd, odd),
		of(pay(api.Point{Tx: api.Hash{1}, N: math.MaxUint32})),
	} {
		if id, e := Id(b); e != api.OK || id != nameOf(b) {
			t.Error(i, id, e)
		}
	}
}

// unshaped are blocks without a form.
func unshaped() []api.Block {
	l := []api.Block{
		{Pay: make([]api.Out, api.MaxOuts+1)},
		{Pay: slices.Repeat([]api.Out{out(1, 1)}, api.MaxOuts+1)},
		{Pay: make([]api.Out, 1<<16)},
		{Txs: make([]api.Tx, api.MaxBlock+1)},
		{Txs: make([]api.Tx, 1<<16)},
		{Pay: make([]api.Out, api.MaxOuts+1), Txs: make([]api.Tx, api.MaxBlock+1)},
	}
	fine := pay(nth(0), out(1, 1))
	var many []api.In
	for i := range api.MaxIns + 1 {
		many = append(many, in(nth(i), 1))
	}
	for _, x := range []api.Tx{
		{Ins: many, Outs: fine.Outs},
		{Ins: fine.Ins, Outs: slices.Repeat(fine.Outs, api.MaxOuts+1)},
		{Ins: []api.In{{Key: make([]byte, api.MaxWitness+1)}}, Outs: fine.Outs},
	} {
		l = append(l, of(x), of(fine, x), of(x, fine), of(api.Tx{}, x), api.Block{Pay: []api.Out{out(1, 1)}, Txs: []api.Tx{x}})
		full := slices.Repeat([]api.Tx{fine}, api.MaxBlock)
		full[api.MaxBlock-1] = x
		l = append(l, of(full...))
	}
	return l
}

// P11.1, P11.2: a block without a form has no id, and isn't connected.
func TestUnshaped(t *testing.T) {
	c, m := grown(t, 9, of(pay(nth(8), out(1, 1))))
	for i, b := range unshaped() {
		if id, e := Id(b); e != api.ErrLong || id != (api.Hash{}) {
			t.Error(i, id, e)
		}
		refuses(t, c, m, b, api.ErrLong, i)
	}
}

// P11.1, P11.2: as many payments, transactions, inputs, outputs and bytes of a key as there may be.
func TestMost(t *testing.T) {
	key := bytes.Repeat([]byte{7}, api.MaxWitness)
	long := api.Out{Value: 1000, Lock: sha256.Sum256(key)}
	c, m := begun(t, slices.Repeat([]api.Out{long}, api.MaxBlock*api.MaxIns)...)
	b := api.Block{Tag: math.MaxUint64, Pay: slices.Repeat([]api.Out{out(api.MaxMoney, 1)}, api.MaxOuts)}
	for i := range api.MaxBlock {
		x := api.Tx{Version: math.MaxUint32}
		for j := range api.MaxIns {
			x.Ins = append(x.Ins, api.In{From: nth(i*api.MaxIns + j), Key: key})
			x.Outs = append(x.Outs, out(1000, byte(j)))
		}
		b.Txs = append(b.Txs, x)
	}
	more := cloned(b)
	more.Txs = append(more.Txs, pay(nth(0), out(1, 1)))
	refuses(t, c, m, more, api.ErrLong, "a transaction more")
	more = cloned(b)
	more.Pay = append(more.Pay, out(1, 1))
	refuses(t, c, m, more, api.ErrLong, "a payment more")
	connects(t, c, m, b)
	if id, e := Id(b); e != api.OK || id != nameOf(b) {
		t.Error(id, e)
	}
	disconnects(t, c, m)
}

// P11.2: blocks up to MaxHeight, and no more, whatever a block is else; when one is off, there is room again.
func TestHeight(t *testing.T) {
	c, _ := begun(t, first(2)...)
	for i := range api.MaxHeight {
		if n := c.Height(); n != i {
			t.Fatal(i, n)
		}
		if e := c.Connect(api.Block{Tag: uint64(i)}); e != api.OK {
			t.Fatal(i, e)
		}
	}
	fine := of(pay(nth(0), out(1, 1)))
	for i, b := range append(unshaped(), api.Block{}, fine, of(api.Tx{}), paying(out(0, 1))) {
		if e := c.Connect(b); e != api.ErrFull || c.Height() != api.MaxHeight {
			t.Error(i, e, c.Height())
		}
	}
	if len(c.Coins()) != 2 || c.Done(idOf(fine.Txs[0])) {
		t.Error("a block is done that isn't connected")
	}
	if b, e := c.Disconnect(); e != api.OK || b.Tag != api.MaxHeight-1 || c.Height() != api.MaxHeight-1 {
		t.Error(b, e)
	}
	if e := c.Connect(fine); e != api.OK || c.Height() != api.MaxHeight {
		t.Error(e)
	}
	if e := c.Connect(api.Block{}); e != api.ErrFull {
		t.Error(e)
	}
	if b, e := c.Disconnect(); e != api.OK || !same(b, fine) {
		t.Error(b, e)
	}
	for i := api.MaxHeight - 2; i >= 0; i-- {
		if b, e := c.Disconnect(); e != api.OK || b.Tag != uint64(i) || c.Height() != i {
			t.Fatal(i, b, e)
		}
	}
	if _, e := c.Disconnect(); e != api.ErrNone {
		t.Error(e)
	}
}

// P11.2: blocks without payments and transactions leave all coins as they are, and may come again.
func TestEmptyBlocks(t *testing.T) {
	c, m := begun(t)
	for i := range 5 {
		connects(t, c, m, api.Block{Tag: uint64(i / 2)}, i)
	}
	connects(t, c, m, api.Block{Pay: []api.Out{}, Txs: []api.Tx{}})
	for i := range 6 {
		disconnects(t, c, m, i)
	}
	if b, e := c.Disconnect(); e != api.ErrNone || !same(b, api.Block{}) {
		t.Error(b, e)
	}
}

// P11.2: a payment's Value is from 1 to MaxMoney, each one's; their sum may be any.
func TestPayments(t *testing.T) {
	for at := range 3 {
		for _, v := range []uint64{0, api.MaxMoney + 1, api.MaxMoney + 2, 1 << 63, math.MaxUint64} {
			c, m := grown(t, 1)
			b := paying(out(1, 1), out(2, 2), out(3, 3))
			b.Pay[at].Value = v
			refuses(t, c, m, b, api.ErrMoney, at, v)
			b.Txs = []api.Tx{pay(nth(0), out(5, 1))}
			refuses(t, c, m, b, api.ErrMoney, at, v)
		}
		for _, v := range []uint64{1, 2, api.MaxMoney - 1, api.MaxMoney} {
			c, m := grown(t, 1)
			b := paying(out(api.MaxMoney, 1), out(api.MaxMoney, 2), out(api.MaxMoney, 3))
			b.Pay[at].Value = v
			connects(t, c, m, b, at, v)
			disconnects(t, c, m)
		}
	}
	c, m := grown(t, 0, paying(slices.Repeat([]api.Out{out(api.MaxMoney, 1)}, api.MaxOuts)...))
	if n := len(c.Coins()); n != api.MaxOuts {
		t.Error(n)
	}
	// A lock may be any.
	connects(t, c, m, paying(api.Out{Value: 1}))
}

// P11.2: what is paid may be spent by a block behind, not by its own one, nor by the key of another one.
func TestSpendPaid(t *testing.T) {
	c, m := grown(t, 0)
	a := paying(out(5, 1), out(6, 2))
	connects(t, c, m, a)
	refuses(t, c, m, of(pay(paid(a, 2), out(1, 1))), api.ErrLost, "no such payment")
	refuses(t, c, m, of(pay(paid(a, 1), out(1, 1))), api.ErrLock, "another's")
	refuses(t, c, m, of(pay(paid(a, 0), out(6, 1))), api.ErrMoney, "too much")
	connects(t, c, m, of(pay(paid(a, 0), out(5, 1))))
	refuses(t, c, m, of(pay(paid(a, 0), out(4, 1))), api.ErrLost, "twice")
}

// P11.2: each error of a transaction, of all that can be wrong with it alone.
func TestTransactionErrors(t *testing.T) {
	old := pay(nth(7), out(500, 1), out(500, 2))
	c, m := grown(t, 8, of(old))
	fine := []api.Out{out(1, 1)}
	wide := api.Tx{Ins: []api.In{in(nth(0), 1), in(nth(1), 1)}, Outs: fine}
	lost, lock, twice := cloneTx(wide), cloneTx(wide), cloneTx(wide)
	lost.Ins[1].From.N, lock.Ins[1].Key, twice.Ins[1] = 200, []byte{9}, twice.Ins[0]
	for i, x := range []struct {
		x api.Tx
		e api.Errno
	}{
		{api.Tx{}, api.ErrNone},
		{api.Tx{Outs: fine}, api.ErrNone},
		{api.Tx{Ins: wide.Ins}, api.ErrNone},
		{pay(nth(0), out(0, 1)), api.ErrMoney},
		{pay(nth(0), out(1, 1), out(0, 1)), api.ErrMoney},
		{pay(nth(0), out(api.MaxMoney+1, 1)), api.ErrMoney},
		{pay(nth(0), out(math.MaxUint64, 1)), api.ErrMoney},
		{pay(nth(0), out(api.MaxMoney, 1), out(1, 1)), api.ErrMoney},
		{twice, api.ErrTwice},
		{old, api.ErrDone},
		{lost, api.ErrLost},
		{pay(nth(8), fine...), api.ErrLost},
		{pay(nth(7), fine...), api.ErrLost},
		{pay(api.Point{Tx: api.Hash{31: 1}}, fine...), api.ErrLost},
		{pay(made(old, 2), fine...), api.ErrLost},
		{pay(nth(math.MaxUint32), fine...), api.ErrLost},
		{lock, api.ErrLock},
		{pay(made(old, 1), fine...), api.ErrLock},
		{api.Tx{Ins: []api.In{{From: nth(0)}}, Outs: fine}, api.ErrLock},
		{pay(nth(0), out(1001, 1)), api.ErrMoney},
		{pay(made(old, 0), out(499, 1), out(2, 1)), api.ErrMoney},
	} {
		refuses(t, c, m, of(x.x), x.e, i, "alone")
		refuses(t, c, m, of(pay(nth(5), out(3, 3)), x.x), x.e, i, "last")
		refuses(t, c, m, of(x.x, pay(nth(5), out(3, 3))), x.e, i, "first")
		refuses(t, c, m, of(pay(nth(5), out(3, 3)), x.x, pay(nth(6), out(3, 3))), x.e, i, "between")
		b := of(pay(made(old, 0), out(3, 3)), pay(nth(6), out(3, 3)), x.x)
		b.Pay = []api.Out{out(5, 1)}
		if x.x.Ins != nil && x.x.Ins[0].From == made(old, 0) {
			x.e = api.ErrLost
		}
		refuses(t, c, m, b, x.e, i, "with payments")
	}
	connects(t, c, m, of(wide, pay(made(old, 0), fine...), pay(nth(2), fine...)))
}

func cloneTx(x api.Tx) api.Tx { return cloned(of(x)).Txs[0] }

// P11.2: which error comes first of a transaction with several.
func TestOrderOfErrors(t *testing.T) {
	old := pay(nth(7), out(500, 1), out(500, 2))
	c, m := grown(t, 8, of(old))
	// What is wrong with a transaction besides is added piece by piece: the last one added is told.
	x := pay(nth(0), out(1001, 1))
	refuses(t, c, m, of(x), api.ErrMoney)
	x.Ins[0].Key = []byte{9}
	refuses(t, c, m, of(x), api.ErrLock)
	x.Ins = append(x.Ins, in(nth(77), 1))
	refuses(t, c, m, of(x), api.ErrLost)
	x.Ins = append(x.Ins, in(nth(77), 1))
	refuses(t, c, m, of(x), api.ErrTwice)
	x.Outs[0].Value = 0
	refuses(t, c, m, of(x), api.ErrMoney)
	x.Outs = nil
	refuses(t, c, m, of(x), api.ErrNone)
	b := of(x)
	b.Pay = []api.Out{out(0, 1)}
	refuses(t, c, m, b, api.ErrMoney, "a payment")
	b.Txs = append(b.Txs, api.Tx{Ins: make([]api.In, api.MaxIns+1)})
	refuses(t, c, m, b, api.ErrLong, "no form")
	// One that is done has spent its points: it is done all the same.
	refuses(t, c, m, of(old), api.ErrDone)
	// Two inputs that lack: a lost point behind a wrong key.
	refuses(t, c, m, of(api.Tx{Ins: []api.In{in(nth(0), 9), in(nth(99), 1)}, Outs: []api.Out{out(1, 1)}}), api.ErrLost)
	refuses(t, c, m, of(api.Tx{Ins: []api.In{in(nth(99), 1), in(nth(0), 9)}, Outs: []api.Out{out(1, 1)}}), api.ErrLost)
}

// P11.2: of two transactions of a block with errors the first one's is told, whatever they are.
func TestOrderBetween(t *testing.T) {
	old := pay(nth(7), out(500, 1))
	c, m := grown(t, 8, of(old))
	wrong := []struct {
		x api.Tx
		e api.Errno
	}{
		{api.Tx{}, api.ErrNone},
		{pay(nth(0), out(0, 1)), api.ErrMoney},
		{api.Tx{Ins: []api.In{in(nth(0), 1), in(nth(0), 1)}, Outs: []api.Out{out(1, 1)}}, api.ErrTwice},
		{old, api.ErrDone},
		{pay(nth(99), out(1, 1)), api.ErrLost},
		{api.Tx{Ins: []api.In{in(nth(0), 9)}, Outs: []api.Out{out(1, 1)}}, api.ErrLock},
		{pay(nth(0), out(1001, 1)), api.ErrMoney},
	}
	for i, a := range wrong {
		for j, b := range wrong {
			refuses(t, c, m, of(a.x, b.x), a.e, i, j)
			refuses(t, c, m, of(pay(nth(1), out(1, 1)), a.x, b.x), a.e, i, j)
			refuses(t, c, m, api.Block{Pay: []api.Out{out(0, 1)}, Txs: []api.Tx{a.x, b.x}}, api.ErrMoney, i, j)
			refuses(t, c, m, of(a.x, b.x, api.Tx{Outs: make([]api.Out, 9)}), api.ErrLong, i, j)
		}
	}
}

// P11.2: a transaction may spend what those ahead of it in the block made, not what those behind it make.
func TestRow(t *testing.T) {
	a := pay(nth(0), out(900, 1), out(50, 2))
	b := pay(made(a, 0), out(800, 1))
	d := api.Tx{Ins: []api.In{in(made(b, 0), 1), in(made(a, 1), 2), in(nth(1), 1)}, Outs: []api.Out{out(1850, 1)}}
	for i, l := range [][]api.Tx{{b, a}, {a, d, b}, {b, a, d}, {d, a, b}, {d, b, a}, {b, d, a}} {
		c, m := grown(t, 2)
		refuses(t, c, m, of(l...), api.ErrLost, i)
	}
	for cut := range 4 {
		c, m := grown(t, 2)
		l := []api.Tx{a, b, d}
		connects(t, c, m, of(l[:cut]...), cut)
		connects(t, c, m, of(l[cut:]...), cut)
		if got := c.Coins(); len(got) != 1 || got[0].At != made(d, 0) {
			t.Error(cut, got)
		}
		disconnects(t, c, m, cut)
		disconnects(t, c, m, cut)
	}
	c, m := grown(t, 2)
	rich := pay(made(b, 0), out(801, 1))
	refuses(t, c, m, of(a, b, rich), api.ErrMoney, "more than was made")
	other := pay(made(a, 1), out(1, 1))
	refuses(t, c, m, of(a, b, other), api.ErrLock, "another's")
	// The longest row there is.
	row := []api.Tx{a}
	for len(row) < api.MaxBlock {
		row = append(row, pay(made(row[len(row)-1], 0), out(uint64(800-len(row)), 1)))
	}
	connects(t, c, m, of(row...))
	disconnects(t, c, m)
}

// P11.2, P11.5: a point that one ahead has spent isn't there, in the block and in the blocks below.
func TestSpentOnce(t *testing.T) {
	a, b := pay(nth(0), out(900, 1)), pay(nth(0), out(901, 1))
	both := api.Tx{Ins: []api.In{in(nth(1), 1), in(nth(0), 1)}, Outs: []api.Out{out(1, 1)}}
	c, m := grown(t, 2)
	refuses(t, c, m, of(a, b), api.ErrLost)
	refuses(t, c, m, of(b, a), api.ErrLost)
	refuses(t, c, m, of(a, both), api.ErrLost)
	refuses(t, c, m, of(both, a), api.ErrLost)
	connects(t, c, m, of(a))
	refuses(t, c, m, of(b), api.ErrLost)
	refuses(t, c, m, of(both), api.ErrLost)
	// The same outputs by another key or Version: another id, but the point is spent.
	again := cloneTx(a)
	again.Version = 1
	refuses(t, c, m, of(again), api.ErrLost)
	again = cloneTx(a)
	again.Ins[0].Key = nil
	refuses(t, c, m, of(again), api.ErrLost)
	refuses(t, c, m, of(pay(made(a, 0), out(900, 1)), pay(made(a, 0), out(899, 1))), api.ErrLost)
	disconnects(t, c, m)
	connects(t, c, m, of(b))
	refuses(t, c, m, of(a), api.ErrLost)
}

// P11.2, P11.4: a transaction stands in one block at most, and once in it.
func TestDone(t *testing.T) {
	a := pay(nth(0), out(900, 1))
	b := pay(made(a, 0), out(800, 1))
	c, m := grown(t, 2)
	refuses(t, c, m, of(a, a), api.ErrDone, "twice in a row")
	refuses(t, c, m, of(a, b, a), api.ErrDone, "twice")
	refuses(t, c, m, of(a, b, b), api.ErrDone, "twice at the end")
	if c.Done(idOf(a)) || c.Done(idOf(b)) {
		t.Error("done by a block that was refused")
	}
	connects(t, c, m, of(a))
	refuses(t, c, m, of(a), api.ErrDone, "in the block below")
	connects(t, c, m, of(b))
	refuses(t, c, m, of(a), api.ErrDone, "in a block farther below")
	refuses(t, c, m, of(pay(nth(1), out(1, 1)), a), api.ErrDone, "behind another one")
	if !c.Done(idOf(a)) || !c.Done(idOf(b)) || c.Done(nameOf(of(a))) || c.Done(idOf(pay(nth(1), out(1, 1)))) {
		t.Error("done")
	}
	disconnects(t, c, m)
	if !c.Done(idOf(a)) || c.Done(idOf(b)) {
		t.Error("done")
	}
	disconnects(t, c, m)
	if c.Done(idOf(a)) {
		t.Error("done")
	}
	// What is off may come again, in another block.
	connects(t, c, m, of(pay(nth(1), out(1, 1)), a, b))
}

// alike are a transaction that spends what parent makes, and a block of payments whose id is the transaction's: both
// are sums of the same bytes. (The parent's Version was looked for till its id could stand where payments do.)
func alike() (parent, x api.Tx, b api.Block) {
	key := []byte("secret7")
	parent = pay(nth(0), api.Out{Value: 1000, Lock: sha256.Sum256(key)})
	parent.Version = 17359846
	x = api.Tx{Version: 3, Ins: []api.In{{From: made(parent, 0), Key: key}}}
	// The second lock's last byte is 0: so many transactions the block has.
	x.Outs = []api.Out{out(600, 1), {Value: 400, Lock: sha256.Sum256([]byte("k509"))}}
	l, _ := tx.Put(x)
	b.Tag = binary.LittleEndian.Uint64(l)
	for i := range int(l[8]) {
		o := l[9+40*i:]
		b.Pay = append(b.Pay, api.Out{Value: binary.LittleEndian.Uint64(o), Lock: api.Hash(o[8:40])})
	}
	return parent, x, b
}

// P11.2: a transaction's coin that is there already, as a payment of a block of the same id.
func TestThere(t *testing.T) {
	parent, x, b := alike()
	if id, e := Id(b); e != api.OK || id != idOf(x) || len(b.Pay) != 3 {
		t.Fatal("not alike:", b, e)
	}
	c, m := grown(t, 2, of(parent), b)
	refuses(t, c, m, of(x), api.ErrThere)
	refuses(t, c, m, of(pay(nth(1), out(7, 1)), x), api.ErrThere)
	refuses(t, c, m, of(x, api.Tx{}), api.ErrThere)
	refuses(t, c, m, of(api.Tx{}, x), api.ErrNone)
	refuses(t, c, m, paying(append(b.Pay, out(0, 1))...), api.ErrMoney)
	// Layer 10's errors come first.
	y := cloneTx(x)
	y.Ins[0].Key[0]++
	refuses(t, c, m, of(y), api.ErrLock)
	disconnects(t, c, m)
	connects(t, c, m, of(x))
	// Now the payments find the transaction's coins: both, one of them, none.
	refuses(t, c, m, b, api.ErrThere)
	connects(t, c, m, of(pay(made(x, 0), out(1, 1))))
	refuses(t, c, m, b, api.ErrThere)
	connects(t, c, m, of(api.Tx{Ins: []api.In{{From: made(x, 1), Key: []byte("k509")}}, Outs: []api.Out{out(1, 1)}}))
	connects(t, c, m, b)
	if o, there := c.Find(made(x, 0)); !there || o != b.Pay[0] || !c.Done(idOf(x)) {
		t.Error(o, there)
	}
	disconnects(t, c, m)
	disconnects(t, c, m)
	refuses(t, c, m, b, api.ErrThere)
	disconnects(t, c, m)
	disconnects(t, c, m)
	connects(t, c, m, b)
}

// P11.2: payments that are there already, all or one of them; when they are spent, the same block may come again.
func TestPaidAgain(t *testing.T) {
	c, m := grown(t, 1)
	b := paying(out(5, 1), out(6, 1))
	connects(t, c, m, b)
	refuses(t, c, m, b, api.ErrThere)
	// Another Tag, another payment: another id.
	other := cloned(b)
	other.Tag = 1
	connects(t, c, m, other)
	connects(t, c, m, paying(out(5, 1)))
	connects(t, c, m, of(pay(paid(b, 1), out(6, 1))))
	refuses(t, c, m, b, api.ErrThere, "the first one")
	disconnects(t, c, m)
	connects(t, c, m, of(pay(paid(b, 0), out(5, 1))))
	refuses(t, c, m, b, api.ErrThere, "the second one")
	connects(t, c, m, of(pay(paid(b, 1), out(6, 1))))
	connects(t, c, m, b)
	refuses(t, c, m, b, api.ErrThere)
	refuses(t, c, m, of(pay(paid(b, 0), out(5, 1))), api.ErrDone)
	connects(t, c, m, of(pay(paid(b, 0), out(4, 1))))
	for len(m.blocks) > 0 {
		disconnects(t, c, m)
	}
}

// P11.2: a coin that would be made twice, and one that is made again when one ahead has spent it.
func TestMadeAgain(t *testing.T) {
	x := pay(nth(0), out(5, 1), out(6, 1))
	for n := range 2 {
		c, m := grown(t, 2)
		odd := api.Coin{At: made(x, n), Out: out(70, 1)}
		c.left.Put(odd)
		before := c.Coins()
		spends := pay(odd.At, out(70, 2))
		for i, b := range []api.Block{of(x), of(x, spends), of(pay(nth(1), out(1, 1)), x)} {
			if e := c.Connect(b); e != api.ErrThere || !slices.Equal(c.Coins(), before) || c.Done(idOf(x)) {
				t.Error(n, i, e)
			}
		}
		// Whoever has a wrong key, or makes too much, is told that.
		for i, z := range []struct {
			x api.Tx
			e api.Errno
		}{
			{api.Tx{Ins: []api.In{in(nth(0), 2)}, Outs: x.Outs}, api.ErrLock},
			{api.Tx{Ins: x.Ins, Outs: []api.Out{out(1001, 1), out(1, 1)}}, api.ErrMoney},
		} {
			c.left.Put(api.Coin{At: made(z.x, n), Out: out(1, 1)})
			if e := c.Connect(of(z.x)); e != z.e {
				t.Error(n, i, e)
			}
			c.left.Take(made(z.x, n))
		}
		if e := c.Connect(of(spends, x)); e != api.OK || !c.Done(idOf(x)) || !c.Done(idOf(spends)) {
			t.Error(n, e)
		}
		if o, there := c.Find(odd.At); !there || o != x.Outs[n] {
			t.Error(n, o, there)
		}
		// Undone from the last one on, or what was there before would be lost.
		if b, e := c.Disconnect(); e != api.OK || !same(b, of(spends, x)) || !slices.Equal(c.Coins(), before) {
			t.Error(n, b, e, c.Coins())
		}
		c.left.Take(odd.At)
		stands(t, c, m, n)
	}
}

// P11.2, P11.5: a payment that is there already, in a block whose transactions are done by then: they are undone.
func TestPaidThere(t *testing.T) {
	b := ordinary()
	for n := range b.Pay {
		c, m := grown(t, 2)
		c.left.Put(api.Coin{At: paid(b, n), Out: out(70, 1)})
		before := c.Coins()
		if e := c.Connect(b); e != api.ErrThere || !slices.Equal(c.Coins(), before) || c.Height() != 0 {
			t.Error(n, e, c.Coins())
		}
		for _, x := range b.Txs {
			if c.Done(idOf(x)) {
				t.Error(n, "done")
			}
		}
		c.left.Take(paid(b, n))
		connects(t, c, m, b)
	}
}

// P11.3, P11.5: blocks come off, down to none, and go on again, or others do.
func TestDownAndUp(t *testing.T) {
	a := pay(nth(0), out(900, 1), out(100, 2))
	b := pay(made(a, 0), out(400, 1), out(500, 1))
	d := api.Tx{Ins: []api.In{in(made(b, 1), 1), in(made(a, 1), 2)}, Outs: []api.Out{out(600, 1)}}
	one := api.Block{Tag: 1, Pay: []api.Out{out(7, 1)}, Txs: []api.Tx{a}}
	two := api.Block{Tag: 2, Pay: []api.Out{out(8, 1)}, Txs: []api.Tx{b, pay(paid(one, 0), out(7, 3))}}
	three := api.Block{Tag: 3, Pay: []api.Out{out(9, 1)}, Txs: []api.Tx{d}}
	l := []api.Block{one, two, three}
	c, m := grown(t, 2)
	for low := 2; low >= 0; low-- {
		for range 2 {
			for _, b := range l[len(m.blocks):] {
				connects(t, c, m, b)
			}
			for len(m.blocks) > low {
				n := len(m.blocks)
				if b := disconnects(t, c, m); !same(b, l[n-1]) {
					t.Error(b)
				}
			}
		}
	}
	// Others in their place, of the same coins.
	other := api.Block{Tag: 1, Pay: []api.Out{out(70, 1)}, Txs: []api.Tx{pay(nth(0), out(1, 1)), pay(nth(1), out(2, 1))}}
	connects(t, c, m, other)
	refuses(t, c, m, one, api.ErrLost)
	connects(t, c, m, of(pay(paid(other, 0), out(70, 1))))
	disconnects(t, c, m)
	disconnects(t, c, m)
	for _, b := range l {
		connects(t, c, m, b)
	}
	if _, there := c.Find(paid(other, 0)); there || c.Done(idOf(other.Txs[0])) {
		t.Error("what was taken off is there")
	}
}

// P11.3: what Disconnect answers may be connected again as it is.
func TestOffAndOn(t *testing.T) {
	c, m := grown(t, 2, paying(out(5, 1)), of(pay(nth(0), out(1, 1)), pay(nth(1), out(2, 2))), api.Block{Tag: 9})
	var off []api.Block
	for len(m.blocks) > 0 {
		off = append(off, disconnects(t, c, m))
	}
	for _, b := range slices.Backward(off) {
		connects(t, c, m, b)
	}
}

// P11.4: coins are told in the order of their points, whoever made them.
func TestCoins(t *testing.T) {
	c, m := grown(t, 20)
	for i := range 20 {
		b := api.Block{Tag: uint64(i), Pay: []api.Out{out(1, 1), out(2, 1), out(3, 1)}}
		b.Txs = []api.Tx{pay(nth(i), out(uint64(1+i), 1), out(2, 1))}
		connects(t, c, m, b)
	}
	got := c.Coins()
	if len(got) != 100 || !slices.IsSortedFunc(got, func(a, b api.Coin) int {
		return cmp.Or(bytes.Compare(a.At.Tx[:], b.At.Tx[:]), cmp.Compare(a.At.N, b.At.N))
	}) {
		t.Error(len(got))
	}
}

// roomy are the things of a list with spare room behind them, filled.
func roomy[T any](l []T, fill T) []T {
	w := append(slices.Clone(l), fill, fill, fill)
	return w[:len(l)]
}

// spread is a block whose lists all have spare room.
func spread(b api.Block) api.Block {
	b = cloned(b)
	for i, x := range b.Txs {
		for j, z := range x.Ins {
			x.Ins[j].Key = roomy(z.Key, 0xaa)
		}
		b.Txs[i].Ins, b.Txs[i].Outs = roomy(x.Ins, in(nth(9), 9)), roomy(x.Outs, out(9, 9))
	}
	b.Pay, b.Txs = roomy(b.Pay, out(9, 9)), roomy(b.Txs, api.Tx{Version: 9})
	return b
}

// all is a block with the spare room of its lists.
func all(b api.Block) api.Block {
	whole := api.Block{Tag: b.Tag, Pay: b.Pay[:cap(b.Pay)], Txs: slices.Clone(b.Txs[:cap(b.Txs)])}
	for i, x := range whole.Txs {
		ins := slices.Clone(x.Ins[:cap(x.Ins)])
		for j, z := range ins {
			ins[j].Key = z.Key[:cap(z.Key)]
		}
		whole.Txs[i].Ins, whole.Txs[i].Outs = ins, x.Outs[:cap(x.Outs)]
	}
	return whole
}

// spoil changes all that a block's lists hold, and their spare room.
func spoil(b api.Block) {
	for _, x := range b.Txs {
		for _, z := range x.Ins {
			key := z.Key[:cap(z.Key)]
			for i := range key {
				key[i] ^= 0x55
			}
		}
		clear(x.Ins[:cap(x.Ins)])
		clear(x.Outs[:cap(x.Outs)])
	}
	clear(b.Txs[:cap(b.Txs)])
	clear(b.Pay[:cap(b.Pay)])
}

// ordinary is a block of two transactions and two payments, on two first outputs.
func ordinary() api.Block {
	a := pay(nth(0), out(900, 1), out(100, 2))
	b := api.Tx{Version: 2, Ins: []api.In{in(made(a, 1), 2), in(nth(1), 1)}, Outs: []api.Out{out(6, 1)}}
	return api.Block{Tag: 3, Pay: []api.Out{out(5, 1), out(6, 2)}, Txs: []api.Tx{a, b}}
}

// What is handed in stays as it is, its spare room too.
func TestArgumentsStay(t *testing.T) {
	outs := roomy(first(3), out(9, 9))
	want := slices.Clone(outs[:cap(outs)])
	c, e := New(outs)
	if e != api.OK || !slices.Equal(outs[:cap(outs)], want) {
		t.Error("first outputs are changed", e)
	}
	b := spread(ordinary())
	before := cloned(all(b))
	Id(b)
	c.Connect(b)
	c.Connect(b)
	c.Disconnect()
	c.Connect(b)
	if c.Height() != 1 || !same(all(b), before) {
		t.Error("a block is changed")
	}
}

// P11.5: what a caller changes in what it handed in, or was given, changes no chain.
func TestMemory(t *testing.T) {
	outs := roomy(first(3), out(9, 9))
	c, e := New(outs)
	m := &model{first: first(3)}
	if e != api.OK {
		t.Fatal(e)
	}
	clear(outs[:cap(outs)])
	stands(t, c, m, "first outputs")
	for i := range 3 {
		b := spread(ordinary())
		connects(t, c, m, b, i)
		spoil(b)
		stands(t, c, m, "a block", i)
		l := c.Coins()
		clear(l[:cap(l)])
		stands(t, c, m, "coins", i)
		off := disconnects(t, c, m, i)
		again := cloned(off)
		if !same(off, ordinary()) {
			t.Error(i, off)
		}
		connects(t, c, m, off, i)
		spoil(off)
		stands(t, c, m, "a block that was off", i)
		if off = disconnects(t, c, m, i); !same(off, again) {
			t.Error(i, off)
		}
	}
}

// No two lists of an answer share memory, spare room included.
func TestAnswersApart(t *testing.T) {
	c, m := grown(t, 2, ordinary())
	b := disconnects(t, c, m)
	want := cloned(b)
	for range 50 {
		for i := range b.Txs {
			b.Txs[i].Ins[0].Key = append(b.Txs[i].Ins[0].Key, 0xff)[:1]
			b.Txs[i].Outs = append(b.Txs[i].Outs, out(9, 9))[:len(want.Txs[i].Outs)]
			b.Txs[i].Ins = append(b.Txs[i].Ins, in(nth(9), 9))[:len(want.Txs[i].Ins)]
		}
		b.Pay = append(b.Pay, out(9, 9))[:2]
	}
	if !same(b, want) {
		t.Error("lists of a block share memory")
	}
	one, two := c.Coins(), c.Coins()
	clear(one[:cap(one)])
	if len(two) != 2 || two[0].Out != out(1000, 1) {
		t.Error("two lists of coins share memory")
	}
}

// Chains don't have one another.
func TestApart(t *testing.T) {
	one, m := grown(t, 2)
	two, n := grown(t, 2)
	connects(t, one, m, ordinary())
	stands(t, two, n)
	connects(t, two, n, of(pay(nth(0), out(1, 1))))
	stands(t, one, m)
	disconnects(t, one, m)
	stands(t, two, n)
}

// A nil chain.
func TestNil(t *testing.T) {
	var c *Chain
	for i, b := range append(unshaped(), api.Block{}, ordinary(), paying(out(0, 1)), of(api.Tx{})) {
		if e := c.Connect(b); e != api.ErrNil {
			t.Error(i, e)
		}
	}
	if b, e := c.Disconnect(); e != api.ErrNil || !reflect.ValueOf(b).IsZero() {
		t.Error(b, e)
	}
	if n := c.Height(); n != 0 {
		t.Error(n)
	}
	for _, p := range []api.Point{{}, {N: 1}, {Tx: api.Hash{1}}} {
		if o, there := c.Find(p); there || o != (api.Out{}) {
			t.Error(p, o, there)
		}
		if c.Done(p.Tx) {
			t.Error(p)
		}
	}
	if l := c.Coins(); len(l) != 0 {
		t.Error(l)
	}
}

// Beside ErrNone there is nothing.
func TestNoBlock(t *testing.T) {
	c, m := grown(t, 2, ordinary())
	disconnects(t, c, m)
	for range 3 {
		if b, e := c.Disconnect(); e != api.ErrNone || !reflect.ValueOf(b).IsZero() {
			t.Error(b, e)
		}
		stands(t, c, m)
	}
}

// A chain that New didn't make is one without first outputs.
func TestZero(t *testing.T) {
	c, m := &Chain{}, &model{}
	stands(t, c, m)
	if _, e := c.Disconnect(); e != api.ErrNone {
		t.Error(e)
	}
	refuses(t, c, m, of(pay(nth(0), out(1, 1))), api.ErrLost)
	c = &Chain{}
	b := paying(out(5, 1))
	connects(t, c, m, b)
	connects(t, c, m, of(pay(paid(b, 0), out(5, 1))))
	disconnects(t, c, m)
	disconnects(t, c, m)
}

// drawn is a block on what is left, with transactions of all kinds, which spend what keys 0 to 3 open.
func drawn(r *rand.Rand, l left) api.Block {
	b := api.Block{Tag: uint64(r.Intn(3))}
	for range r.Intn(3) {
		b.Pay = append(b.Pay, out(uint64(50+r.Intn(2)), byte(r.Intn(2))))
	}
	if r.Intn(3) == 0 {
		return b
	}
	for range 1 + r.Intn(4) {
		var x api.Tx
		var sum uint64
		for range min(1+r.Intn(3), len(l.coins)) {
			i := r.Intn(len(l.coins))
			coin := l.coins[i]
			for key := range byte(4) {
				if out(0, key).Lock == coin.Out.Lock {
					x.Ins = append(x.Ins, in(coin.At, key))
				}
			}
			sum += coin.Out.Value
			l.coins = slices.Delete(l.coins, i, i+1)
		}
		for n := 1 + uint64(r.Intn(3)); n > 0; n-- {
			x.Outs = append(x.Outs, out(sum/n, byte(r.Intn(4))))
			sum -= sum / n
		}
		b.Txs = append(b.Txs, x)
		if l.put(idOf(x), x.Outs); len(l.coins) == 0 {
			break
		}
	}
	return b
}

// bent is a block with one thing about it that may be wrong.
func bent(r *rand.Rand, b api.Block, old []api.Block) api.Block {
	if len(b.Txs) == 0 {
		return b
	}
	i := r.Intn(len(b.Txs))
	x := &b.Txs[i]
	switch r.Intn(11) {
	case 0:
		b.Txs[0], b.Txs[i] = b.Txs[i], b.Txs[0]
	case 1:
		b.Txs = append(b.Txs, cloneTx(*x))
	case 2:
		x.Outs[0].Value++
	case 3:
		x.Outs[0].Value = 0
	case 4:
		x.Ins = append(x.Ins, api.In{From: nth(r.Intn(20)), Key: []byte{1}})
	case 5:
		x.Version, x.Outs = 1, x.Outs[:1]
	case 6:
		b.Pay = append(b.Pay, out(uint64(r.Intn(2))*(api.MaxMoney+1), 1))
	case 7:
		if len(old) > 0 {
			b.Txs = append(b.Txs, old[r.Intn(len(old))].Txs...)
		}
	case 8:
		if len(x.Ins) > 0 {
			x.Ins[0].Key = []byte{byte(r.Intn(4))}
		}
	case 9:
		x.Outs = slices.Repeat(x.Outs, 9)
	case 10:
		x.Ins = slices.Repeat(x.Ins, 2)
	}
	return b
}

// P11.2, P11.3, P11.5: whatever blocks come and go, a chain is what the plain lists are; each error is met on the way.
func TestDrawn(t *testing.T) {
	met := map[api.Errno]int{}
	for seed := range int64(40) {
		r := rand.New(rand.NewSource(seed))
		c, m := begun(t, first(r.Intn(8))...)
		for step := range 60 {
			if len(m.blocks) > 0 && r.Intn(3) == 0 {
				disconnects(t, c, m, seed, step)
				continue
			}
			b := drawn(r, m.left())
			if r.Intn(2) == 0 {
				b = bent(r, b, m.blocks)
			}
			want := m.connect(b)
			if e := c.Connect(b); e != want {
				t.Fatal(seed, step, e, want)
			}
			stands(t, c, m, seed, step)
			met[want]++
		}
		for len(m.blocks) > 0 {
			disconnects(t, c, m, seed, "down")
		}
	}
	for _, e := range []api.Errno{api.OK, api.ErrLong, api.ErrMoney, api.ErrNone, api.ErrTwice, api.ErrDone, api.ErrLost, api.ErrLock, api.ErrThere} {
		if met[e] == 0 {
			t.Error("never met:", e)
		}
	}
}
