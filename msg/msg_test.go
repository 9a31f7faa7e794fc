package msg

import (
	"bytes"
	"crypto/sha256"
	"encoding/binary"
	"encoding/hex"
	"fmt"
	"math"
	"math/rand"
	"reflect"
	"slices"
	"strings"
	"testing"

	"pappus/api"
	"pappus/frame"
)

// raw is the bytes that a text of hex digits, with spaces between, stands for.
func raw(text string) []byte {
	b, err := hex.DecodeString(strings.ReplaceAll(text, " ", ""))
	if err != nil {
		panic(err)
	}
	return b
}

// some are n bytes of all kinds, others for another seed.
func some(n int, seed int64) []byte {
	b := make([]byte, n)
	rand.New(rand.NewSource(seed)).Read(b)
	return b
}

// hash is a hash of all kinds of bytes.
func hash(seed int64) api.Hash {
	return api.Hash(some(32, seed))
}

// ids are n ids; all of them differ.
func ids(n int) []api.Hash {
	var l []api.Hash
	for i := range n {
		l = append(l, hash(int64(i)))
	}
	return l
}

// joined are the bytes of ids, one behind the other.
func joined(l []api.Hash) []byte {
	var b []byte
	for _, id := range l {
		b = append(b, id[:]...)
	}
	return b
}

// ins are n inputs whose Keys have size bytes; all of them differ.
func ins(n, size int) []api.In {
	var l []api.In
	for i := range n {
		seed := int64(100*n + i)
		l = append(l, api.In{From: api.Point{Tx: hash(seed), N: uint32(0xf1020304 * (i + 1))}, Key: some(size, -seed)})
	}
	return l
}

// outs are n outputs; all of them differ.
func outs(n int) []api.Out {
	var l []api.Out
	for i := range n {
		l = append(l, api.Out{Value: 0xf102030405060708 * uint64(i+1), Lock: hash(int64(1000 + i))})
	}
	return l
}

// formedTxs are transactions with a form, at its limits too.
func formedTxs() []api.Tx {
	l := []api.Tx{
		{},
		{Version: 1},
		{Version: math.MaxUint32, Ins: []api.In{}, Outs: []api.Out{}},
		{Ins: []api.In{{}}},
		{Outs: []api.Out{{}}},
		{Ins: []api.In{{Key: []byte{}}, {Key: []byte{0}}}, Outs: outs(1)},
		{Version: 0x01020304, Ins: ins(api.MaxIns, api.MaxWitness), Outs: outs(api.MaxOuts)},
	}
	for n := range api.MaxIns + 1 {
		l = append(l, api.Tx{Version: uint32(n) << 28, Ins: ins(n, 8*n), Outs: outs(api.MaxOuts - n)})
	}
	return l
}

// formlessTxs are transactions without a form.
func formlessTxs() []api.Tx {
	return []api.Tx{
		{Ins: ins(9, 1)},
		{Outs: outs(9)},
		{Version: 1, Ins: ins(1, 65), Outs: outs(1)},
		{Ins: append(ins(7, 64), ins(1, 65)...)},
		{Ins: make([]api.In, 70000), Outs: make([]api.Out, 70000)},
	}
}

// command is a kind's command, written out once more.
func command(kind int) string {
	return [...]string{"", "version", "verack", "ping", "pong", "inv", "getdata", "notfound", "tx", "stemtx", "reject", "sendstem"}[kind]
}

// kinds are all kinds.
func kinds() []int {
	return []int{1, 2, 3, 4, 5, 6, 7, 8, 9, 10, 11}
}

// These are the kinds whose bodies are alike.
func pings() []int { return []int{api.Ping, api.Pong} }
func lists() []int { return []int{api.Inv, api.Getdata, api.Notfound} }
func bears() []int { return []int{api.TxMsg, api.StemTx} }

// least is a message of a kind, with as little in it as may be.
func least(kind int) api.Msg {
	m := api.Msg{Kind: kind}
	if uses(kind, "Ids") {
		m.Ids = []api.Hash{{}}
	}
	return m
}

// uses says whether a kind uses a field, by the chapter's table.
func uses(kind int, field string) bool {
	switch field {
	case "N":
		return kind == api.Version || slices.Contains(pings(), kind)
	case "Code":
		return kind == api.Version || kind == api.Reject || kind == api.SendStem
	case "Ids":
		return kind == api.Reject || slices.Contains(lists(), kind)
	case "Tx":
		return slices.Contains(bears(), kind)
	}
	panic(field)
}

// messages are messages of all kinds that may be put, at the limits too.
func messages() []api.Msg {
	var l []api.Msg
	ns := []uint64{0, 1, 252, 253, 0x0102030405060708, 0xf1f2f3f4f5f6f7f8, 1 << 32, 1 << 63, math.MaxUint64}
	for _, n := range ns {
		for _, code := range []uint32{0, 1, 255, 256, 0x01020304, 0xf1f2f3f4, 1 << 31, math.MaxUint32} {
			l = append(l, api.Msg{Kind: api.Version, N: n, Code: code})
		}
		l = append(l, api.Msg{Kind: api.Ping, N: n}, api.Msg{Kind: api.Pong, N: n})
	}
	for _, kind := range lists() {
		for n := 1; n <= api.MaxInv; n++ {
			l = append(l, api.Msg{Kind: kind, Ids: ids(n)})
		}
		// One id may stand more than once.
		l = append(l, api.Msg{Kind: kind, Ids: make([]api.Hash, 1)}, api.Msg{Kind: kind, Ids: make([]api.Hash, api.MaxInv)})
	}
	for _, kind := range bears() {
		for _, x := range formedTxs() {
			l = append(l, api.Msg{Kind: kind, Tx: x})
		}
	}
	for code := range uint32(256) {
		l = append(l, api.Msg{Kind: api.Reject, Ids: []api.Hash{hash(int64(code))}, Code: code})
	}
	l = append(l, api.Msg{Kind: api.Reject, Ids: make([]api.Hash, 1)})
	l = append(l, api.Msg{Kind: api.Verack}, api.Msg{Kind: api.Verack, Ids: []api.Hash{}, Tx: api.Tx{Ins: []api.In{}, Outs: []api.Out{}}})
	return append(l, api.Msg{Kind: api.SendStem}, api.Msg{Kind: api.SendStem, Code: 1})
}

// txWire is a transaction's bytes, by the library.
func txWire(x api.Tx) []byte {
	b := binary.LittleEndian.AppendUint32(nil, x.Version)
	b = append(b, byte(len(x.Ins)))
	for _, in := range x.Ins {
		b = append(b, in.From.Tx[:]...)
		b = binary.LittleEndian.AppendUint32(b, in.From.N)
		b = append(b, byte(len(in.Key)))
		b = append(b, in.Key...)
	}
	b = append(b, byte(len(x.Outs)))
	for _, out := range x.Outs {
		b = binary.LittleEndian.AppendUint64(b, out.Value)
		b = append(b, out.Lock[:]...)
	}
	return b
}

// bodyOf is the body of a message that may be put, by the library.
func bodyOf(m api.Msg) []byte {
	switch m.Kind {
	case api.Version:
		return binary.LittleEndian.AppendUint64(binary.LittleEndian.AppendUint32(nil, m.Code), m.N)
	case api.Verack:
		return nil
	case api.Ping, api.Pong:
		return binary.LittleEndian.AppendUint64(nil, m.N)
	case api.Inv, api.Getdata, api.Notfound:
		return append([]byte{byte(len(m.Ids))}, joined(m.Ids)...)
	case api.TxMsg, api.StemTx:
		return txWire(m.Tx)
	case api.Reject:
		return append(joined(m.Ids), byte(m.Code))
	case api.SendStem:
		return []byte{byte(m.Code)}
	}
	panic(m.Kind)
}

// wire is the frame of a command and a body, by the library.
func wire(cmd string, body []byte) []byte {
	b := append([]byte{0xc4, 0xf0, 0x7a, 0x1e}, cmd...)
	b = append(b, make([]byte, 12-len(cmd))...)
	b = binary.LittleEndian.AppendUint32(b, uint32(len(body)))
	once := sha256.Sum256(body)
	twice := sha256.Sum256(once[:])
	return slices.Concat(b, twice[:4], body)
}

// plain is a message, told by each of its fields; lists that are nil or empty are one.
func plain(m api.Msg) string {
	return fmt.Sprintf("%d %d %d %x %d %x %x", m.Kind, m.N, m.Code, m.Ids, m.Tx.Version, m.Tx.Ins, m.Tx.Outs)
}

// zero says whether nothing stands in a message.
func zero(m api.Msg) bool {
	return plain(m) == plain(api.Msg{})
}

// short is a text's beginning, for what is told of a fault.
func short(text string) string {
	return text[:min(len(text), 200)]
}

// roomy is a copy of a list with spare room that is filled by copies of fill.
func roomy[T any](l []T, fill T) []T {
	w := slices.Concat(l, slices.Repeat([]T{fill}, 40))
	return w[:len(l):len(w)]
}

// untouched says whether w, of roomy(l, fill), and its spare room are as they were.
func untouched[T any](w, l []T, fill T) bool {
	return reflect.DeepEqual(w[:len(l)+40], slices.Concat(l, slices.Repeat([]T{fill}, 40)))
}

// What fills the spare room.
func fillIn() api.In     { return api.In{From: api.Point{N: 7}, Key: []byte("fill")} }
func fillOut() api.Out   { return api.Out{Value: 7} }
func fillHash() api.Hash { return api.Hash{7} }

// spread is a copy of a message whose lists all have spare room that is filled.
func spread(m api.Msg) api.Msg {
	w := m
	w.Ids = roomy(m.Ids, fillHash())
	w.Tx.Ins = roomy(m.Tx.Ins, fillIn())
	w.Tx.Outs = roomy(m.Tx.Outs, fillOut())
	for i, in := range m.Tx.Ins {
		w.Tx.Ins[i].Key = roomy(in.Key, 0xaa)
	}
	return w
}

// spreadStays says whether w, of spread(m), and its spare room are as they were.
func spreadStays(w, m api.Msg) bool {
	for i, in := range w.Tx.Ins {
		if !untouched(in.Key, m.Tx.Ins[i].Key, 0xaa) {
			return false
		}
	}
	n := len(m.Tx.Ins)
	return plain(w) == plain(m) && untouched(w.Ids, m.Ids, fillHash()) && untouched(w.Tx.Ins[n:], nil, fillIn()) && untouched(w.Tx.Outs, m.Tx.Outs, fillOut())
}

// spoil overwrites bytes, their spare room too.
func spoil(b []byte) {
	b = b[:cap(b)]
	for i := range b {
		b[i] ^= 0xff
	}
}

// spoilMsg overwrites all that the lists of a message have, their spare room too.
func spoilMsg(m api.Msg) {
	for _, in := range m.Tx.Ins {
		spoil(in.Key)
	}
	all := m.Ids[:cap(m.Ids)]
	for i := range all {
		all[i][0] ^= 0xff
	}
	clear(m.Tx.Ins[:cap(m.Tx.Ins)])
	clear(m.Tx.Outs[:cap(m.Tx.Outs)])
}

// putGives fails unless Put and Frame tell just that message.
func putGives(t *testing.T, m api.Msg, cmd string, body []byte) {
	t.Helper()
	if c, b, e := Put(m); c != cmd || !bytes.Equal(b, body) || e != api.OK {
		t.Errorf("Put of %s: %q %x %d", short(plain(m)), c, b, e)
	}
	if f, e := Frame(m); !bytes.Equal(f, wire(cmd, body)) || e != api.OK {
		t.Errorf("Frame of %s: %x %d", short(plain(m)), f, e)
	}
}

// putError fails unless Put and Frame tell just that error.
func putError(t *testing.T, m api.Msg, want api.Errno, what ...any) {
	t.Helper()
	if c, b, e := Put(m); c != "" || len(b) != 0 || e != want {
		t.Errorf("Put of %s: %q %x %d, not %d; %v", short(plain(m)), c, b, e, want, what)
	}
	if f, e := Frame(m); len(f) != 0 || e != want {
		t.Errorf("Frame of %s: %x %d, not %d; %v", short(plain(m)), f, e, want, what)
	}
}

// getGives fails unless Get tells just that message.
func getGives(t *testing.T, cmd string, body []byte, want api.Msg) {
	t.Helper()
	if m, e := Get(cmd, body); e != api.OK || plain(m) != plain(want) {
		t.Errorf("Get of %q, %x: %s %d", cmd, body, short(plain(m)), e)
	}
}

// getError fails unless Get tells just that error.
func getError(t *testing.T, cmd string, body []byte, want api.Errno, what ...any) {
	t.Helper()
	if m, e := Get(cmd, body); e != want || !zero(m) {
		t.Errorf("Get of %q, %d bytes, %x: %s %d, not %d; %v", cmd, len(body), short(string(body)), short(plain(m)), e, want, what)
	}
}

// The chapter's examples.
func TestExamples(t *testing.T) {
	putGives(t, api.Msg{Kind: api.SendStem, Code: 1}, "sendstem", raw("01"))
	getError(t, "inv", raw("00"), api.ErrNone)
	getError(t, "verack", raw("01"), api.ErrLong)
	putError(t, api.Msg{Kind: api.Verack, N: 1}, api.ErrArg)
}

// P8.1, P8.2: each kind's command, and its fields where they stand, numbers with their lowest bits first.
func TestWrittenOut(t *testing.T) {
	a, b := api.Hash{0: 0xa0, 31: 0xa1}, api.Hash{0: 0xb0, 31: 0xb1}
	thirty := strings.Repeat("00", 30)
	hexA, hexB := "a0"+thirty+"a1", "b0"+thirty+"b1"
	tx := api.Tx{
		Version: 0x01020304,
		Ins:     []api.In{{From: api.Point{Tx: a, N: 0x05060708}, Key: []byte("key")}},
		Outs:    []api.Out{{Value: 0x090a0b0c0d0e0f10, Lock: b}},
	}
	hexTx := "04030201 01" + hexA + "08070605 03 6b6579 01 100f0e0d0c0b0a09" + hexB
	for _, x := range []struct {
		m    api.Msg
		cmd  string
		body string
	}{
		{api.Msg{Kind: api.Version, N: 0x05060708090a0b0c, Code: 0x01020304}, "version", "04030201 0c0b0a0908070605"},
		{api.Msg{Kind: api.Version}, "version", "00000000 0000000000000000"},
		{api.Msg{Kind: api.Verack}, "verack", ""},
		{api.Msg{Kind: api.Ping, N: 0x0102030405060708}, "ping", "0807060504030201"},
		{api.Msg{Kind: api.Pong, N: 0xf102030405060708}, "pong", "08070605040302f1"},
		{api.Msg{Kind: api.Inv, Ids: []api.Hash{a}}, "inv", "01" + hexA},
		{api.Msg{Kind: api.Inv, Ids: []api.Hash{a, b, a}}, "inv", "03" + hexA + hexB + hexA},
		{api.Msg{Kind: api.Getdata, Ids: []api.Hash{b, a}}, "getdata", "02" + hexB + hexA},
		{api.Msg{Kind: api.Notfound, Ids: []api.Hash{a, a}}, "notfound", "02" + hexA + hexA},
		{api.Msg{Kind: api.TxMsg, Tx: tx}, "tx", hexTx},
		{api.Msg{Kind: api.StemTx, Tx: tx}, "stemtx", hexTx},
		{api.Msg{Kind: api.TxMsg}, "tx", "00000000 00 00"},
		{api.Msg{Kind: api.Reject, Ids: []api.Hash{a}, Code: 13}, "reject", hexA + "0d"},
		{api.Msg{Kind: api.Reject, Ids: []api.Hash{b}, Code: 255}, "reject", hexB + "ff"},
		{api.Msg{Kind: api.SendStem, Code: 0}, "sendstem", "00"},
		{api.Msg{Kind: api.SendStem, Code: 1}, "sendstem", "01"},
	} {
		putGives(t, x.m, x.cmd, raw(x.body))
		getGives(t, x.cmd, raw(x.body), x.m)
	}
}

// P8.1, P8.2, P8.4: what is put is what the library makes of it, and is read; what is framed is what layer 5 reads.
func TestMessages(t *testing.T) {
	for _, m := range messages() {
		cmd, body := command(m.Kind), bodyOf(m)
		putGives(t, m, cmd, body)
		getGives(t, cmd, body, m)
		f, _ := Frame(m)
		c, b, n, e := frame.Get(f)
		if c != cmd || !bytes.Equal(b, body) || n != len(f) || e != api.OK {
			t.Errorf("the frame of %s: %q %x %d %d", short(plain(m)), c, b, n, e)
		}
	}
}

// P8.1: the longest bodies still go into a frame.
func TestLongest(t *testing.T) {
	for _, x := range []struct {
		m api.Msg
		n int
	}{
		{api.Msg{Kind: api.Inv, Ids: ids(api.MaxInv)}, 24 + 1 + 32*32},
		{api.Msg{Kind: api.StemTx, Tx: api.Tx{Ins: ins(8, 64), Outs: outs(8)}}, 24 + 1134},
	} {
		if f, e := Frame(x.m); e != api.OK || len(f) != x.n {
			t.Error(x.m.Kind, len(f), e)
		}
	}
}

// P8.1: a Kind that is none of these, whatever else there is.
func TestNoKind(t *testing.T) {
	none := []int{0, 12, 13, 255, 256, -1, -2, -11, math.MinInt, math.MaxInt}
	for _, kind := range kinds() {
		none = append(none, kind+256, kind+1<<16, kind+1<<32, kind-256, kind+math.MinInt)
	}
	for _, kind := range none {
		for i, m := range []api.Msg{
			{},
			{N: 1},
			{Code: 1},
			{Ids: ids(1)},
			{Ids: ids(33)},
			{Tx: api.Tx{Version: 1}},
			{Tx: formlessTxs()[0]},
		} {
			m.Kind = kind
			putError(t, m, api.ErrArg, i)
		}
	}
}

// unused are messages in which one field alone isn't zero, by that field's name.
func unused() map[string][]api.Msg {
	l := map[string][]api.Msg{
		"Ids": {{Ids: make([]api.Hash, 1)}, {Ids: ids(1)}, {Ids: ids(2)}, {Ids: ids(32)}, {Ids: ids(33)}},
		"Tx": {
			{Tx: api.Tx{Ins: make([]api.In, 1)}},
			{Tx: api.Tx{Outs: make([]api.Out, 1)}},
			{Tx: api.Tx{Ins: ins(8, 64), Outs: outs(8)}},
		},
	}
	for i := range 64 {
		l["N"] = append(l["N"], api.Msg{N: 1 << i})
	}
	for i := range 32 {
		l["Code"] = append(l["Code"], api.Msg{Code: 1 << i})
		l["Tx"] = append(l["Tx"], api.Msg{Tx: api.Tx{Version: 1 << i}})
	}
	for _, x := range formlessTxs() {
		l["Tx"] = append(l["Tx"], api.Msg{Tx: x})
	}
	return l
}

// P8.1: each field that a kind doesn't use, set alone.
func TestUnused(t *testing.T) {
	for field, l := range unused() {
		for _, kind := range kinds() {
			for _, x := range l {
				m := least(kind)
				m.N = x.N
				m.Code = x.Code
				m.Tx = x.Tx
				if field == "Ids" {
					m.Ids = x.Ids
				}
				if !uses(kind, field) {
					putError(t, m, api.ErrArg, field)
				} else if _, _, e := Put(m); e == api.ErrArg {
					t.Error(field, "is used by", kind)
				}
			}
		}
	}
}

// P8.1: empty lists are zero as nil ones are.
func TestEmptyLists(t *testing.T) {
	for _, kind := range kinds() {
		m := least(kind)
		if !uses(kind, "Ids") {
			m.Ids = make([]api.Hash, 0, 5)
		}
		m.Tx = api.Tx{Ins: make([]api.In, 0, 5), Outs: make([]api.Out, 0, 5)}
		putGives(t, m, command(kind), bodyOf(m))
	}
}

// P8.1: how many Ids there may be.
func TestIdsPut(t *testing.T) {
	for n := range 100 {
		for _, kind := range lists() {
			m := api.Msg{Kind: kind, Ids: ids(n)}
			switch {
			case n == 0:
				putError(t, m, api.ErrNone)
				m.Ids = []api.Hash{}
				putError(t, m, api.ErrNone)
			case n > api.MaxInv:
				putError(t, m, api.ErrLong)
			default:
				putGives(t, m, command(kind), append([]byte{byte(n)}, joined(m.Ids)...))
			}
		}
		m := api.Msg{Kind: api.Reject, Ids: ids(n), Code: 1}
		switch {
		case n == 0:
			putError(t, m, api.ErrNone)
			m.Ids = []api.Hash{}
			putError(t, m, api.ErrNone)
		case n > 1:
			putError(t, m, api.ErrLong)
		default:
			putGives(t, m, "reject", append(joined(m.Ids), 1))
		}
	}
	for _, n := range []int{256, 257, 256 + 32, 1<<16 + 1, 1 << 20} {
		for _, kind := range append(lists(), api.Reject) {
			putError(t, api.Msg{Kind: kind, Ids: make([]api.Hash, n)}, api.ErrLong)
		}
	}
}

// P8.1: the Codes that may be.
func TestCodesPut(t *testing.T) {
	codes := []uint32{0, 1, 2, 3, 127, 128, 253, 254, 255, 256, 257, 511, 512, 65535, 65536, 1 << 16, 1<<24 + 1, 1 << 31, math.MaxUint32 - 1, math.MaxUint32}
	for _, code := range codes {
		m := api.Msg{Kind: api.Version, Code: code}
		putGives(t, m, "version", bodyOf(m))
		m = api.Msg{Kind: api.Reject, Ids: ids(1), Code: code}
		if code > 255 {
			putError(t, m, api.ErrRange)
		} else {
			putGives(t, m, "reject", append(joined(m.Ids), byte(code)))
		}
		m = api.Msg{Kind: api.SendStem, Code: code}
		if code > 1 {
			putError(t, m, api.ErrRange)
		} else {
			putGives(t, m, "sendstem", []byte{byte(code)})
		}
	}
}

// P8.1: a Tx with a form, and one without.
func TestTxPut(t *testing.T) {
	for _, kind := range bears() {
		for _, x := range formedTxs() {
			putGives(t, api.Msg{Kind: kind, Tx: x}, command(kind), txWire(x))
		}
		for _, x := range formlessTxs() {
			putError(t, api.Msg{Kind: kind, Tx: x}, api.ErrLong)
		}
	}
}

// P8.1: which error comes first where several would.
func TestPutOrder(t *testing.T) {
	formless := formlessTxs()[0]
	for i, x := range []struct {
		m api.Msg
		e api.Errno
	}{
		// Fields that aren't used, ahead of Ids, Codes and a Tx.
		{api.Msg{Kind: api.Inv, N: 1}, api.ErrArg},
		{api.Msg{Kind: api.Inv, Code: 1}, api.ErrArg},
		{api.Msg{Kind: api.Inv, Tx: api.Tx{Version: 1}}, api.ErrArg},
		{api.Msg{Kind: api.Inv, Tx: formless}, api.ErrArg},
		{api.Msg{Kind: api.Getdata, N: 1, Ids: ids(33)}, api.ErrArg},
		{api.Msg{Kind: api.Notfound, Code: 1, Ids: ids(33)}, api.ErrArg},
		{api.Msg{Kind: api.Reject, N: 1}, api.ErrArg},
		{api.Msg{Kind: api.Reject, N: 1, Ids: ids(2), Code: 256}, api.ErrArg},
		{api.Msg{Kind: api.Reject, Tx: formless, Code: 256}, api.ErrArg},
		{api.Msg{Kind: api.Reject, Tx: formless, Ids: ids(1), Code: 256}, api.ErrArg},
		{api.Msg{Kind: api.SendStem, N: 1, Code: 2}, api.ErrArg},
		{api.Msg{Kind: api.SendStem, Ids: ids(1), Code: 2}, api.ErrArg},
		{api.Msg{Kind: api.SendStem, Ids: ids(33), Code: 2}, api.ErrArg},
		{api.Msg{Kind: api.SendStem, Tx: formless, Code: 2}, api.ErrArg},
		{api.Msg{Kind: api.TxMsg, N: 1, Tx: formless}, api.ErrArg},
		{api.Msg{Kind: api.TxMsg, Code: 1, Tx: formless}, api.ErrArg},
		{api.Msg{Kind: api.StemTx, Ids: ids(1), Tx: formless}, api.ErrArg},
		{api.Msg{Kind: api.StemTx, Ids: ids(33), Tx: formless}, api.ErrArg},
		{api.Msg{Kind: api.Version, Tx: formless}, api.ErrArg},
		{api.Msg{Kind: api.Ping, Ids: ids(33), Code: math.MaxUint32}, api.ErrArg},
		// Ids ahead of Codes.
		{api.Msg{Kind: api.Reject, Code: 256}, api.ErrNone},
		{api.Msg{Kind: api.Reject, Ids: ids(2), Code: 256}, api.ErrLong},
		{api.Msg{Kind: api.Reject, Ids: ids(1), Code: 256}, api.ErrRange},
	} {
		putError(t, x.m, x.e, i)
	}
}

// P8.2: a command that is none of these, ahead of whatever the body is.
func TestNoCommand(t *testing.T) {
	none := []string{"", " ", "\x00", "block", "getheaders", "abcdefghijkl", "abcdefghijklm", "Error", "8", "\xff\xfe", strings.Repeat("tx", 5000)}
	for _, kind := range kinds() {
		cmd := command(kind)
		none = append(none, strings.ToUpper(cmd), strings.ToUpper(cmd[:1])+cmd[1:], cmd[:len(cmd)-1], cmd[1:], cmd+"s", "a"+cmd, cmd+cmd,
			cmd+" ", " "+cmd, cmd+"\x00", cmd+strings.Repeat("\x00", 12-len(cmd)), cmd[:1]+"\x00"+cmd[2:], fmt.Sprint(kind))
		for i := range cmd {
			for _, c := range []byte{cmd[i] - 1, cmd[i] + 1, cmd[i] ^ 0x20, cmd[i] ^ 0x80} {
				if other := cmd[:i] + string([]byte{c}) + cmd[i+1:]; other != "pong" {
					none = append(none, other)
				}
			}
		}
	}
	for _, cmd := range none {
		for _, body := range [][]byte{nil, {}, {0}, {1}, {2}, {253}, make([]byte, 6), make([]byte, 8), make([]byte, 12), make([]byte, 33), append([]byte{1}, make([]byte, 32)...), some(3000, 1)} {
			getError(t, cmd, body, api.ErrName)
		}
	}
}

// P8.2: bodies of fixed size, of all sizes: shorter ones, longer ones.
func TestFixedSizes(t *testing.T) {
	for _, x := range []struct {
		cmd  string
		size int
	}{
		{"version", 12}, {"verack", 0}, {"ping", 8}, {"pong", 8}, {"reject", 33}, {"sendstem", 1},
	} {
		sizes := []int{1 << 8, 1<<8 + x.size, 2048, 2049, 1 << 16, 1<<16 + x.size}
		for n := range 80 {
			sizes = append(sizes, n)
		}
		for _, n := range sizes {
			for _, fill := range []byte{0, 1, 2, 0xfd, 0xff} {
				body := bytes.Repeat([]byte{fill}, n)
				switch {
				case n < x.size:
					getError(t, x.cmd, body, api.ErrShort)
				case n > x.size:
					getError(t, x.cmd, body, api.ErrLong)
				case x.cmd == "sendstem" && fill > 1:
					getError(t, x.cmd, body, api.ErrForm)
				default:
					if m, e := Get(x.cmd, body); e != api.OK || !bytes.Equal(bodyOf(m), body) || command(m.Kind) != x.cmd {
						t.Error(x.cmd, n, fill, plain(m), e)
					}
				}
			}
		}
		if x.size > 0 {
			getError(t, x.cmd, nil, api.ErrShort)
		}
	}
}

// P8.2: of Reject every byte may be, of SendStem 0 and 1 alone.
func TestCodesGet(t *testing.T) {
	id := hash(1)
	for code := range 256 {
		getGives(t, "reject", append(id[:], byte(code)), api.Msg{Kind: api.Reject, Ids: []api.Hash{id}, Code: uint32(code)})
		if code > 1 {
			getError(t, "sendstem", []byte{byte(code)}, api.ErrForm)
		} else {
			getGives(t, "sendstem", []byte{byte(code)}, api.Msg{Kind: api.SendStem, Code: uint32(code)})
		}
		getError(t, "sendstem", []byte{byte(code), 0}, api.ErrLong)
		getError(t, "sendstem", []byte{byte(code), 2}, api.ErrLong)
	}
}

// P8.2: every count that one byte may be, with bytes behind it that are fewer than the ids have, as many, and more.
func TestCountsGet(t *testing.T) {
	for _, kind := range lists() {
		for count := range 253 {
			for _, n := range []int{0, 1, 31, 32, 33, 32*count - 32, 32*count - 1, 32 * count, 32*count + 1, 32*count + 31, 32*count + 32, 3000, 10000} {
				if n < 0 {
					continue
				}
				rest := some(n, int64(n))
				body := append([]byte{byte(count)}, rest...)
				switch {
				case count == 0:
					getError(t, command(kind), body, api.ErrNone)
				case count > 32:
					getError(t, command(kind), body, api.ErrLong)
				case n < 32*count:
					getError(t, command(kind), body, api.ErrShort)
				case n > 32*count:
					getError(t, command(kind), body, api.ErrLong)
				default:
					m, e := Get(command(kind), body)
					if e != api.OK || m.Kind != kind || len(m.Ids) != count || !bytes.Equal(joined(m.Ids), rest) {
						t.Error(kind, count, n, e)
					}
				}
			}
		}
	}
}

// P8.2: counts of more than one byte: too great ones, such as aren't as short as may be, and such as end too early.
func TestLongCountsGet(t *testing.T) {
	for _, x := range []struct {
		count string
		e     api.Errno
	}{
		{"", api.ErrShort},
		{"fd", api.ErrShort},
		{"fd fd", api.ErrShort},
		{"fd 01", api.ErrShort},
		{"fe", api.ErrShort},
		{"fe 01 00 00", api.ErrShort},
		{"ff", api.ErrShort},
		{"ff 01 00 00 00 00 00 00", api.ErrShort},
	} {
		for _, kind := range lists() {
			getError(t, command(kind), raw(x.count), x.e, x.count)
		}
	}
	for _, x := range []struct {
		count string
		e     api.Errno
	}{
		{"fd fd 00", api.ErrLong},
		{"fd ff ff", api.ErrLong},
		{"fe 00 00 01 00", api.ErrLong},
		{"fe ff ff ff ff", api.ErrLong},
		{"ff 00 00 00 00 01 00 00 00", api.ErrLong},
		{"ff 00 00 00 00 00 00 00 80", api.ErrLong},
		{"ff ff ff ff ff ff ff ff ff", api.ErrLong},
		// Their lowest bits alone would be 0, or within the limit; of the last one the ids' bytes, wrapped, are just 32.
		{"fd 00 01", api.ErrLong},
		{"fd 01 01", api.ErrLong},
		{"fe 01 00 01 00", api.ErrLong},
		{"ff 01 00 00 00 01 00 00 00", api.ErrLong},
		{"ff 01 00 00 00 00 00 00 08", api.ErrLong},
		// Not as short as may be: none, within the limit, above it.
		{"fd 00 00", api.ErrForm},
		{"fd 01 00", api.ErrForm},
		{"fd 20 00", api.ErrForm},
		{"fd 21 00", api.ErrForm},
		{"fd fc 00", api.ErrForm},
		{"fe 00 00 00 00", api.ErrForm},
		{"fe 01 00 00 00", api.ErrForm},
		{"fe ff ff 00 00", api.ErrForm},
		{"ff 00 00 00 00 00 00 00 00", api.ErrForm},
		{"ff 01 00 00 00 00 00 00 00", api.ErrForm},
		{"ff ff ff ff ff 00 00 00 00", api.ErrForm},
	} {
		for _, kind := range lists() {
			for _, n := range []int{0, 1, 31, 32, 33, 1024, 8224, 10000} {
				getError(t, command(kind), append(raw(x.count), make([]byte, n)...), x.e, x.count)
			}
		}
	}
}

// P8.2: a Tx's bytes as layer 7 reads them: cut off anywhere, with more behind, with a count or a length above its limit, or not as short as may be.
func TestTxGet(t *testing.T) {
	point := make([]byte, 36)
	for _, kind := range bears() {
		cmd := command(kind)
		for _, x := range formedTxs() {
			b := txWire(x)
			getGives(t, cmd, b, api.Msg{Kind: kind, Tx: x})
			for k := range b {
				getError(t, cmd, b[:k], api.ErrShort)
			}
			for _, tail := range [][]byte{{0}, {1}, {0xff}, b, some(2000, 1)} {
				getError(t, cmd, slices.Concat(b, tail), api.ErrLong)
			}
		}
		for i, x := range []struct {
			b []byte
			e api.Errno
		}{
			{raw("01 00 00 00 09"), api.ErrLong},
			{raw("01 00 00 00 00 09"), api.ErrLong},
			{raw("01 00 00 00 fd"), api.ErrShort},
			{raw("01 00 00 00 fd 00 00"), api.ErrForm},
			{raw("01 00 00 00 00 fd 08 00"), api.ErrForm},
			{raw("01 00 00 00 00 fd 00 01"), api.ErrLong},
			{raw("01 00 00 00 01 05"), api.ErrShort},
			{slices.Concat(raw("01 00 00 00 01"), point, []byte{65}), api.ErrLong},
			{slices.Concat(raw("01 00 00 00 01"), point, []byte{64}), api.ErrShort},
			{slices.Concat(raw("01 00 00 00 01"), point, raw("fd 40 00")), api.ErrForm},
			{make([]byte, 33), api.ErrLong},
			{bytes.Repeat([]byte{0xff}, 100), api.ErrLong},
		} {
			getError(t, cmd, x.b, x.e, i)
		}
		for i, x := range formlessTxs()[:4] {
			getError(t, cmd, txWire(x), api.ErrLong, i)
		}
	}
}

// P8.2: which error comes first where several would.
func TestGetOrder(t *testing.T) {
	for i, x := range []struct {
		cmd  string
		body []byte
		e    api.Errno
	}{
		{"Sendstem", []byte{2}, api.ErrName},
		{"INV", []byte{0}, api.ErrName},
		{"sendstem", []byte{2, 2}, api.ErrLong},
		{"sendstem", nil, api.ErrShort},
		// Not as short as may be, and also none, too many, cut off behind it, too long.
		{"inv", raw("fd 00 00"), api.ErrForm},
		{"inv", raw("fd fc 00"), api.ErrForm},
		{"inv", append(raw("fd 01 00"), make([]byte, 31)...), api.ErrForm},
		{"inv", append(raw("fd 01 00"), make([]byte, 33)...), api.ErrForm},
		// None, and also too long.
		{"getdata", make([]byte, 2), api.ErrNone},
		{"getdata", make([]byte, 33), api.ErrNone},
		// Too many, and also fewer bytes than these have.
		{"notfound", []byte{33}, api.ErrLong},
		{"notfound", append([]byte{33}, make([]byte, 33*32-1)...), api.ErrLong},
		{"notfound", append([]byte{33}, make([]byte, 33*32)...), api.ErrLong},
		{"notfound", append([]byte{33}, make([]byte, 33*32+1)...), api.ErrLong},
		// A Tx's first error, ahead of bytes that would be left behind.
		{"tx", append(raw("01 00 00 00 00 fd 01 00"), make([]byte, 3000)...), api.ErrForm},
		{"stemtx", append(raw("01 00 00 00 fd 00 00 09"), make([]byte, 3000)...), api.ErrForm},
	} {
		getError(t, x.cmd, x.body, x.e, i)
	}
}

// P8.3
func TestLane(t *testing.T) {
	for _, kind := range append(kinds(), 0, 12, -1, -9, 9+256, 9+1<<32, math.MinInt, math.MaxInt) {
		want := api.General
		if kind == api.StemTx {
			want = api.Stem
		}
		if got := Lane(kind); got != want {
			t.Error(kind, got)
		}
	}
}

// full is a message in which every field is set, such as no kind has.
func full() api.Msg {
	return api.Msg{Kind: 5, N: 6, Code: 7, Ids: ids(3), Tx: api.Tx{Version: 1, Ins: ins(2, 3), Outs: outs(2)}}
}

// turned is a full one with something changed.
func turned(f func(m *api.Msg)) api.Msg {
	m := full()
	f(&m)
	return m
}

// P8.3: each field tells, however little it differs.
func TestSame(t *testing.T) {
	others := []api.Msg{
		{},
		turned(func(m *api.Msg) { m.Kind = 6 }),
		turned(func(m *api.Msg) { m.Kind = -5 }),
		turned(func(m *api.Msg) { m.Kind = 0 }),
		turned(func(m *api.Msg) { m.Kind += 1 << 32 }),
		turned(func(m *api.Msg) { m.Ids = nil }),
		turned(func(m *api.Msg) { m.Ids = m.Ids[:2] }),
		turned(func(m *api.Msg) { m.Ids = m.Ids[1:] }),
		turned(func(m *api.Msg) { m.Ids = append(m.Ids, api.Hash{}) }),
		turned(func(m *api.Msg) { m.Ids = append(m.Ids, m.Ids[2]) }),
		turned(func(m *api.Msg) { m.Ids[0], m.Ids[1] = m.Ids[1], m.Ids[0] }),
		turned(func(m *api.Msg) { m.Ids[1], m.Ids[2] = m.Ids[2], m.Ids[1] }),
		turned(func(m *api.Msg) { m.Tx = api.Tx{} }),
		turned(func(m *api.Msg) { m.Tx.Version++ }),
		turned(func(m *api.Msg) { m.Tx.Version ^= 1 << 31 }),
		turned(func(m *api.Msg) { m.Tx.Ins = nil }),
		turned(func(m *api.Msg) { m.Tx.Ins = m.Tx.Ins[:1] }),
		turned(func(m *api.Msg) { m.Tx.Ins[1].From.Tx[31]++ }),
		turned(func(m *api.Msg) { m.Tx.Ins[1].From.N++ }),
		turned(func(m *api.Msg) { m.Tx.Ins[1].Key[2]++ }),
		turned(func(m *api.Msg) { m.Tx.Ins[1].Key = nil }),
		turned(func(m *api.Msg) { m.Tx.Outs = nil }),
		turned(func(m *api.Msg) { m.Tx.Outs = m.Tx.Outs[:1] }),
		turned(func(m *api.Msg) { m.Tx.Outs[1].Value++ }),
		turned(func(m *api.Msg) { m.Tx.Outs[1].Lock[31]++ }),
	}
	for i := range 64 {
		others = append(others, turned(func(m *api.Msg) { m.N ^= 1 << i }))
	}
	for i := range 32 {
		others = append(others, turned(func(m *api.Msg) { m.Code ^= 1 << i }))
	}
	for i := range 3 * 256 {
		others = append(others, turned(func(m *api.Msg) { m.Ids[i/256][i%256/8] ^= 1 << (i % 8) }))
	}
	if !Same(full(), full()) || !Same(full(), spread(full())) {
		t.Error("not the same as itself")
	}
	for i, m := range others {
		if Same(full(), m) || Same(m, full()) || !Same(m, m) {
			t.Error(i)
		}
	}
}

// P8.3: fields tell of every kind, and of none, those too that the kind doesn't use.
func TestSameKinds(t *testing.T) {
	for _, kind := range append(kinds(), 0, 12, -1, math.MinInt) {
		a := api.Msg{Kind: kind}
		for field, l := range unused() {
			for i, m := range l {
				m.Kind = kind
				if Same(a, m) || Same(m, a) || !Same(m, spread(m)) {
					t.Error(kind, field, i)
				}
			}
		}
	}
}

// P8.3: lists that are nil and lists that are empty are one.
func TestSameLists(t *testing.T) {
	nils := []api.Msg{{}, {Tx: api.Tx{Ins: []api.In{{}}}}, {Ids: ids(1), Tx: api.Tx{Outs: outs(1)}}}
	empties := []api.Msg{
		{Ids: []api.Hash{}, Tx: api.Tx{Ins: []api.In{}, Outs: []api.Out{}}},
		{Ids: []api.Hash{}, Tx: api.Tx{Ins: []api.In{{Key: []byte{}}}, Outs: []api.Out{}}},
		{Ids: ids(1), Tx: api.Tx{Ins: []api.In{}, Outs: outs(1)}},
	}
	for i, a := range nils {
		for k, b := range empties {
			if Same(a, b) != (i == k) || Same(b, a) != (i == k) {
				t.Error(i, k)
			}
		}
	}
}

// P8.4: a body that is cut off anywhere is too short, with a byte more too long.
func TestCutAndMore(t *testing.T) {
	for _, m := range messages() {
		cmd, body, e := Put(m)
		if e != api.OK {
			t.Fatal(short(plain(m)), e)
		}
		for k := range body {
			getError(t, cmd, body[:k], api.ErrShort, k)
		}
		for _, c := range []byte{0, 1, 2, 32, 253, 255} {
			getError(t, cmd, append(bytes.Clone(body), c), api.ErrLong, c)
		}
	}
}

// anyMsg is any message of a kind that may be put.
func anyMsg(r *rand.Rand, kind int) api.Msg {
	m := api.Msg{Kind: kind}
	switch kind {
	case api.Version:
		m.Code, m.N = r.Uint32()>>r.Intn(33), r.Uint64()>>r.Intn(65)
	case api.Ping, api.Pong:
		m.N = r.Uint64() >> r.Intn(65)
	case api.Inv, api.Getdata, api.Notfound:
		for range 1 + r.Intn(api.MaxInv) {
			m.Ids = append(m.Ids, hash(r.Int63()))
		}
	case api.TxMsg, api.StemTx:
		m.Tx = api.Tx{Version: r.Uint32(), Ins: ins(r.Intn(9), r.Intn(65)), Outs: outs(r.Intn(9))}
	case api.Reject:
		m.Ids, m.Code = []api.Hash{hash(r.Int63())}, uint32(r.Intn(256))
	case api.SendStem:
		m.Code = uint32(r.Intn(2))
	}
	return m
}

// P8.4: what is put is read, as the same.
func TestPutIsRead(t *testing.T) {
	r := rand.New(rand.NewSource(1))
	for i := range 4000 {
		m := anyMsg(r, 1+i%11)
		cmd, body, e := Put(m)
		if e != api.OK || cmd != command(m.Kind) || !bytes.Equal(body, bodyOf(m)) {
			t.Fatal(short(plain(m)), cmd, e)
		}
		got, e := Get(cmd, body)
		if e != api.OK || !Same(got, m) || plain(got) != plain(m) {
			t.Fatal(short(plain(m)), short(plain(got)), e)
		}
	}
}

// P8.2, P8.4: bytes that are read, put again, are the same; bytes of any kind, and such as nearly are a message.
func TestReadIsPut(t *testing.T) {
	r := rand.New(rand.NewSource(2))
	read := 0
	for i := range 20000 {
		body := bodyOf(anyMsg(r, 1+r.Intn(11)))
		switch i % 4 {
		case 0:
			body = some(r.Intn(60), r.Int63())
		case 1:
			body = body[:r.Intn(len(body)+1)]
		case 2:
			for range r.Intn(3) {
				if len(body) > 0 {
					body[r.Intn(len(body))] ^= 1 << r.Intn(8)
				}
			}
		}
		cmd := command(1 + r.Intn(11))
		m, e := Get(cmd, body)
		if e != api.OK {
			if !zero(m) {
				t.Fatalf("%s %x: %s", cmd, body, short(plain(m)))
			}
			continue
		}
		read++
		if c, b, e := Put(m); c != cmd || !bytes.Equal(b, body) || e != api.OK {
			t.Fatalf("%s %x, put again: %s %x %d", cmd, body, c, b, e)
		}
	}
	if read < 1000 {
		t.Error("too few could be read:", read)
	}
}

// What is handed in is not changed: neither lists, nor their spare room.
func TestUntouched(t *testing.T) {
	l := append(messages(), full(), api.Msg{Kind: api.Inv, Ids: ids(40)}, api.Msg{Kind: api.Reject, Ids: ids(2)})
	for _, x := range formlessTxs()[:4] {
		l = append(l, api.Msg{Kind: api.TxMsg, Tx: x}, api.Msg{Kind: api.Verack, Tx: x})
	}
	for _, m := range l {
		w, v := spread(m), spread(m)
		Put(w)
		Frame(w)
		Same(w, v)
		if !spreadStays(w, m) || !spreadStays(v, m) {
			t.Error(short(plain(m)))
		}
	}
	for _, m := range messages() {
		body := bodyOf(m)
		for _, kind := range kinds() {
			w := roomy(body, 0xaa)
			Get(command(kind), w)
			if !untouched(w, body, 0xaa) {
				t.Error(kind, short(plain(m)), "body")
			}
		}
	}
}

// Bodies and frames are new memory.
func TestPutNew(t *testing.T) {
	for _, m := range messages() {
		w := spread(m)
		_, a, _ := Put(w)
		_, b, _ := Put(w)
		f, _ := Frame(w)
		g, _ := Frame(w)
		spoil(a)
		spoil(f)
		if !spreadStays(w, m) || !bytes.Equal(b, bodyOf(m)) || !bytes.Equal(g, wire(command(m.Kind), b)) {
			t.Error(short(plain(m)))
		}
	}
}

// A message that is read is new memory: it shares none with the body, with another answer, and no two of its lists share any.
func TestGetNew(t *testing.T) {
	for _, m := range messages() {
		cmd, body := command(m.Kind), bodyOf(m)
		w := roomy(body, 0xaa)
		x, _ := Get(cmd, w)
		y, _ := Get(cmd, w)
		for i := range x.Tx.Ins {
			spoil(x.Tx.Ins[i].Key)
			for k := i + 1; k < len(x.Tx.Ins); k++ {
				if !bytes.Equal(x.Tx.Ins[k].Key, m.Tx.Ins[k].Key) {
					t.Error(short(plain(m)), "keys share")
				}
			}
		}
		spoilMsg(x)
		if !untouched(w, body, 0xaa) || plain(y) != plain(m) {
			t.Error(short(plain(m)), "shared")
		}
		spoil(w)
		if plain(y) != plain(m) {
			t.Error(short(plain(m)), "kept")
		}
	}
}
