package frame

import (
	"bytes"
	"crypto/sha256"
	"encoding/binary"
	"encoding/hex"
	"fmt"
	"math"
	"math/rand"
	"regexp"
	"slices"
	"strings"
	"testing"

	"pappus/api"
)

// raw is the bytes that a text of hex digits, with spaces and commas between, stands for.
func raw(text string) []byte {
	b, err := hex.DecodeString(strings.NewReplacer(" ", "", ",", "").Replace(text))
	if err != nil {
		panic(text)
	}
	return b
}

// some are n bytes of all kinds, others for another seed.
func some(n int, seed int64) []byte {
	b := make([]byte, n)
	rand.New(rand.NewSource(seed)).Read(b)
	return b
}

// check is a body's Check, by the library.
func check(body []byte) uint32 {
	once := sha256.Sum256(body)
	twice := sha256.Sum256(once[:])
	return binary.LittleEndian.Uint32(twice[:])
}

// head are 24 bytes that tell so, by the library; the name may be any bytes, at most twelve.
func head(name string, size, sum uint32) []byte {
	if len(name) > 12 {
		panic(name)
	}
	b := []byte("\xc4\xf0\x7a\x1e" + name + strings.Repeat("\x00", 12-len(name)))
	b = binary.LittleEndian.AppendUint32(b, size)
	return binary.LittleEndian.AppendUint32(b, sum)
}

// wire is a frame, by the library.
func wire(name string, body []byte) []byte {
	return append(head(name, uint32(len(body)), check(body)), body...)
}

// got is what Get answers.
type got struct {
	cmd  string
	body string
	n    int
	e    api.Errno
}

// String shows a body's beginning alone, by hex digits.
func (g got) String() string {
	return fmt.Sprintf("%q, body %.16x, n %d, error %d", g.cmd, g.body, g.n, g.e)
}

// get is Get's answer, to be held against others.
func get(b []byte) got {
	cmd, body, n, e := Get(b)
	return got{cmd, string(body), n, e}
}

// whole is what Get answers of a frame that is there and right.
func whole(cmd string, body []byte) got {
	return got{cmd, string(body), 24 + len(body), api.OK}
}

// named is a head's twelve bytes, if they have a name.
var named = regexp.MustCompile(`\A[a-z]{1,12}\x00*\z`)

// model is Get, by the library.
func model(b []byte) got {
	if len(b) < 24 {
		return got{e: api.ErrShort}
	}
	if !bytes.HasPrefix(b, raw("c4 f0 7a 1e")) {
		return got{e: api.ErrForm}
	}
	size := binary.LittleEndian.Uint32(b[16:])
	if size > 2048 {
		return got{e: api.ErrLong}
	}
	n := 24 + int(size)
	if len(b) < n {
		return got{e: api.ErrShort}
	}
	if !named.Match(b[4:16]) {
		return got{n: n, e: api.ErrName}
	}
	if check(b[24:n]) != binary.LittleEndian.Uint32(b[20:]) {
		return got{n: n, e: api.ErrSum}
	}
	return got{strings.Trim(string(b[4:16]), "\x00"), string(b[24:n]), n, api.OK}
}

// names are commands' names of every size that they may have, and those that the messages have.
func names() []string {
	l := []string{"version", "verack", "ping", "pong", "inv", "getdata", "notfound", "tx", "stemtx", "reject", "sendstem", "a", "z", "zzzzzzzzzzzz"}
	for n := 1; n <= 12; n++ {
		l = append(l, "abcdefghijkl"[:n], "zyxwvutsrqponm"[:n])
	}
	return l
}

// misnamed are texts that are no command's name.
func misnamed() []string {
	return []string{
		"", "abcdefghijklm", "zzzzzzzzzzzzz", strings.Repeat("a", 24), strings.Repeat("a", 256), strings.Repeat("a", 257), strings.Repeat("a", 1<<16+1),
		"\x00", "\x00a", "a\x00", "a\x00b", "verack\x00", "verack\x00\x00\x00\x00\x00\x00", strings.Repeat("\x00", 12), "abcdefghijkl\x00",
		"A", "Z", "tX", "Verack", "VERACK", "t1", "0", "9tx", "tx9", " ", "tx ", " tx", "t x", "\ttx", "tx\n",
		"`", "{", "@", "[", "a`", "a{", "tx-", "stem_tx", "tx.", "\x7f", "\x80", "\xff", "a\xff", "\xe1", "a\xc3",
		"é", "aé", "ａ", "ⓐ", "а", "txı", "\u212a", "abcdefghijké",
	}
}

// sizes are those of bodies, from none to as many bytes as may be.
func sizes() []int {
	return []int{0, 1, 2, 8, 32, 55, 56, 63, 64, 65, 252, 253, 255, 256, 257, 1000, 2046, 2047, 2048}
}

// roomy is a copy of b with spare room that is filled.
func roomy(b []byte) []byte {
	w := bytes.Repeat([]byte{0xaa}, len(b)+64)
	copy(w, b)
	return w[:len(b)]
}

// untouched says whether w, of roomy(b), and its spare room are as they were.
func untouched(w, b []byte) bool {
	all := w[:len(b)+64]
	return bytes.Equal(all[:len(b)], b) && bytes.Equal(all[len(b):], bytes.Repeat([]byte{0xaa}, 64))
}

// spoil overwrites a list, its spare room too.
func spoil(b []byte) {
	b = b[:cap(b)]
	for i := range b {
		b[i] ^= 0xff
	}
}

// P5.1
func TestNamed(t *testing.T) {
	for _, name := range names() {
		if !Named(name) {
			t.Errorf("%q is no name", name)
		}
	}
	for _, name := range misnamed() {
		if Named(name) {
			t.Errorf("%.40q is a name", name)
		}
	}
}

// P5.1: every byte, at every place of a name of every size.
func TestNamedBytes(t *testing.T) {
	for n := 1; n <= 14; n++ {
		for i := range n {
			for c := range 256 {
				b := []byte(strings.Repeat("m", n))
				b[i] = byte(c)
				want := n <= 12 && c >= 'a' && c <= 'z'
				if Named(string(b)) != want {
					t.Errorf("%q: %v", b, !want)
				}
			}
		}
	}
}

// P5.1: the example of the chapter, and others that are written out.
func TestPut(t *testing.T) {
	for _, x := range []struct {
		cmd  string
		body []byte
		want string
	}{
		{"verack", nil, "c4 f0 7a 1e, 76 65 72 61 63 6b 00 00 00 00 00 00, 00 00 00 00, 5d f6 e0 e2"},
		{"verack", []byte{}, "c4 f0 7a 1e, 76 65 72 61 63 6b 00 00 00 00 00 00, 00 00 00 00, 5d f6 e0 e2"},
		{"a", nil, "c4 f0 7a 1e, 61 00 00 00 00 00 00 00 00 00 00 00, 00 00 00 00, 5d f6 e0 e2"},
		{"abcdefghijkl", nil, "c4 f0 7a 1e, 61 62 63 64 65 66 67 68 69 6a 6b 6c, 00 00 00 00, 5d f6 e0 e2"},
		{"tx", []byte("hello"), "c4 f0 7a 1e, 74 78 00 00 00 00 00 00 00 00 00 00, 05 00 00 00, 95 95 c9 df, 68 65 6c 6c 6f"},
	} {
		if b, e := Put(x.cmd, x.body); e != api.OK || !bytes.Equal(b, raw(x.want)) {
			t.Errorf("%s: %x %d", x.cmd, b, e)
		}
	}
}

// P5.1: every size of a body about the edges, with names of every size.
func TestPutSizes(t *testing.T) {
	for _, name := range names() {
		for _, n := range sizes() {
			body := some(n, int64(n))
			if b, e := Put(name, body); e != api.OK || !bytes.Equal(b, wire(name, body)) {
				t.Errorf("%s, %d bytes: %x %d", name, n, b, e)
			}
		}
	}
	for _, body := range [][]byte{make([]byte, 2048), bytes.Repeat([]byte{0xff}, 2048), bytes.Repeat(raw("c4 f0 7a 1e"), 512)} {
		if b, e := Put("tx", body); e != api.OK || !bytes.Equal(b, wire("tx", body)) {
			t.Errorf("%x: %d", body[:4], e)
		}
	}
}

// P5.1: ErrName ahead of ErrLong, and nothing beside them.
func TestPutErrors(t *testing.T) {
	for _, n := range []int{0, 1, 2048, 2049, 2050, 4096, 65536, 1 << 20} {
		body := some(n, int64(n))
		for _, name := range misnamed() {
			if b, e := Put(name, body); e != api.ErrName || len(b) != 0 {
				t.Errorf("%.40q, %d bytes: %d bytes %d", name, n, len(b), e)
			}
		}
		for _, name := range names() {
			b, e := Put(name, body)
			if n <= 2048 && e != api.OK || n > 2048 && (e != api.ErrLong || len(b) != 0) {
				t.Errorf("%s, %d bytes: %d bytes %d", name, n, len(b), e)
			}
		}
	}
}

// P5.2
func TestHead(t *testing.T) {
	for _, name := range names() {
		for _, size := range []uint32{0, 1, 255, 256, 2047, 2048} {
			for _, sum := range []uint32{0, 1, 0xe2e0f65d, 0x01020304, 1 << 31, math.MaxUint32} {
				want := Header{Cmd: name, Len: int(size), Sum: sum}
				if h, e := Head(head(name, size, sum)); h != want || e != api.OK {
					t.Errorf("%v: %v %d", want, h, e)
				}
			}
		}
	}
	if h, e := Head(raw("c4f07a1e 747800000000000000000000 01020000 0a0b0c0d")); h != (Header{"tx", 0x0201, 0x0d0c0b0a}) || e != api.OK {
		t.Error(h, e)
	}
}

// P5.2: ErrArg, unless there are 24 bytes, whatever they are.
func TestHeadArg(t *testing.T) {
	full := wire("verack", some(2048, 1))
	for _, b := range [][]byte{full, make([]byte, len(full)), head("Tx", math.MaxUint32, 0)} {
		for n := range len(b) + 1 {
			if h, e := Head(b[:n]); n != 24 && (h != (Header{}) || e != api.ErrArg) || n == 24 && e == api.ErrArg {
				t.Errorf("%d: %v %d", n, h, e)
			}
		}
	}
	if h, e := Head(nil); h != (Header{}) || e != api.ErrArg {
		t.Error(h, e)
	}
}

// P5.2: ErrForm, whichever bit of the magic is turned, ahead of ErrLong.
func TestHeadMagic(t *testing.T) {
	for _, size := range []uint32{0, 2048, 2049, math.MaxUint32} {
		for i := range 32 {
			b := head("ping", size, 7)
			b[i/8] ^= 1 << (i % 8)
			if h, e := Head(b); h != (Header{}) || e != api.ErrForm {
				t.Errorf("bit %d: %v %d", i, h, e)
			}
		}
	}
	for _, text := range []string{"00 00 00 00", "1e 7a f0 c4", "ff ff ff ff", "f0 7a 1e c4", "c4 f0 7a 00", "00 c4 f0 7a"} {
		b := append(raw(text), head("ping", 0, 7)[4:]...)
		if h, e := Head(b); h != (Header{}) || e != api.ErrForm {
			t.Errorf("%s: %v %d", text, h, e)
		}
	}
	if h, e := Head(make([]byte, 24)); h != (Header{}) || e != api.ErrForm {
		t.Error(h, e)
	}
}

// P5.2: ErrLong beyond MaxBody, whatever the name is.
func TestHeadLong(t *testing.T) {
	lengths := []uint32{2049, 2050, 2304, 1<<31 - 1, 1 << 31, 1<<31 + 1, math.MaxUint32 - 1, math.MaxUint32, 0xffff0000, 0x00010000}
	for i := 12; i < 32; i++ {
		lengths = append(lengths, 1<<i, 1<<i|5)
	}
	for _, size := range lengths {
		for _, name := range []string{"tx", "", "TX", "a\x00b"} {
			if h, e := Head(head(name, size, 7)); h != (Header{}) || e != api.ErrLong {
				t.Errorf("%q %d: %v %d", name, size, h, e)
			}
		}
	}
}

// P5.2: what isn't a name is told as none, and the rest as it stands.
func TestHeadNoName(t *testing.T) {
	for _, name := range misnamed() {
		// Bytes 0 behind a name are those that a head has there itself.
		if len(name) > 12 || Named(strings.TrimRight(name, "\x00")) {
			continue
		}
		if h, e := Head(head(name, 2048, 0x01020304)); h != (Header{Len: 2048, Sum: 0x01020304}) || e != api.OK {
			t.Errorf("%q: %v %d", name, h, e)
		}
	}
	for _, name := range []string{"verack", "a", "abcdefghijk"} {
		if h, e := Head(head(name+"\x00", 3, 4)); h != (Header{name, 3, 4}) || e != api.OK {
			t.Errorf("%q: %v %d", name, h, e)
		}
	}
}

// P5.2: every byte at every place of the twelve, behind names of every size.
func TestHeadNames(t *testing.T) {
	for n := range 13 {
		for i := range 12 {
			for c := range 256 {
				b := head("abcdefghijkl"[:n], 9, 8)
				b[4+i] = byte(c)
				want := Header{Len: 9, Sum: 8}
				if named.Match(b[4:16]) {
					want.Cmd = strings.Trim(string(b[4:16]), "\x00")
				}
				if h, e := Head(b); h != want || e != api.OK {
					t.Fatalf("%q: %v %d", b[4:16], h, e)
				}
			}
		}
	}
}

// P5.3
func TestGet(t *testing.T) {
	for _, name := range names() {
		for _, n := range sizes() {
			body := some(n, int64(n))
			if a := get(wire(name, body)); a != whole(name, body) {
				t.Errorf("%s, %d bytes: %v", name, n, a)
			}
		}
	}
}

// P5.3: what each fault alone brings about, and what stands beside it.
func TestGetErrors(t *testing.T) {
	body := []byte("hello")
	sum := check(body)
	for i, x := range []struct {
		b    []byte
		want got
	}{
		{nil, got{e: api.ErrShort}},
		{[]byte{}, got{e: api.ErrShort}},
		{[]byte{0}, got{e: api.ErrShort}},
		{make([]byte, 23), got{e: api.ErrShort}},
		{make([]byte, 24), got{e: api.ErrForm}},
		{make([]byte, 5000), got{e: api.ErrForm}},
		{head("tx", 0, sum), got{n: 24, e: api.ErrSum}},
		{head("tx", 1, sum), got{e: api.ErrShort}},
		{head("tx", 2048, sum), got{e: api.ErrShort}},
		{head("tx", 2049, sum), got{e: api.ErrLong}},
		{head("tx", math.MaxUint32, sum), got{e: api.ErrLong}},
		{head("tx", 1<<31, sum), got{e: api.ErrLong}},
		{append(head("tx", 5, sum), body...), whole("tx", body)},
		{append(head("tx", 6, sum), body...), got{e: api.ErrShort}},
		{append(head("tx", 4, sum), body...), got{n: 28, e: api.ErrSum}},
		{append(head("tx", 5, sum+1), body...), got{n: 29, e: api.ErrSum}},
		{append(head("tx", 5, 0), body...), got{n: 29, e: api.ErrSum}},
		{append(head("tx", 5, sum), "hellO"...), got{n: 29, e: api.ErrSum}},
		{append(head("tx", 5, sum), "helloo"...), whole("tx", body)},
		{append(head("", 5, sum), body...), got{n: 29, e: api.ErrName}},
		{append(head("Tx", 5, sum), body...), got{n: 29, e: api.ErrName}},
		{append(head("\x00tx", 5, sum), body...), got{n: 29, e: api.ErrName}},
		{append(head("t\x00x", 5, sum), body...), got{n: 29, e: api.ErrName}},
		{append(head("tx\x00\x00\x00\x00\x00\x00\x00\x00\x00x", 5, sum), body...), got{n: 29, e: api.ErrName}},
		{append(head("tx\x00\x00\x00\x00\x00\x00\x00\x00\x00\x01", 5, sum), body...), got{n: 29, e: api.ErrName}},
		{append(head("tx\x00", 5, sum), body...), whole("tx", body)},
		{append(head("", 2048, 1), make([]byte, 2047)...), got{e: api.ErrShort}},
		{append(head("", 2048, 1), make([]byte, 2048)...), got{n: 2072, e: api.ErrName}},
		{append(head("tx", 2048, 1), make([]byte, 2048)...), got{n: 2072, e: api.ErrSum}},
		{append(head("tx", 2049, check(make([]byte, 2049))), make([]byte, 2049)...), got{e: api.ErrLong}},
	} {
		if a := get(x.b); a != x.want {
			t.Errorf("%d: %v, not %v", i, a, x.want)
		}
	}
}

// P5.3: of all faults that hold together, the first one in the chapter's order.
func TestGetOrder(t *testing.T) {
	body := some(100, 5)
	for faults := range 1 << 6 {
		has := func(i int) bool { return faults>>i&1 == 1 }
		size, want := 100, whole("tx", body)
		b := wire("tx", body)
		if has(5) {
			b[20] ^= 1
			want = got{n: 124, e: api.ErrSum}
		}
		if has(4) {
			b[4] = 'T'
			want = got{n: 124, e: api.ErrName}
		}
		if has(3) {
			size = 99
			want = got{e: api.ErrShort}
		}
		if has(2) {
			b[17] = 9
			want = got{e: api.ErrLong}
		}
		if has(1) {
			b[3] ^= 0x10
			want = got{e: api.ErrForm}
		}
		if has(0) {
			size = -1
			want = got{e: api.ErrShort}
		}
		if a := get(b[:24+size]); a != want {
			t.Errorf("faults %06b: %v, not %v", faults, a, want)
		}
	}
}

// P5.3: any bit of a frame turned, with bytes behind it and without.
func TestGetBits(t *testing.T) {
	for _, n := range []int{0, 1, 5, 100, 2048} {
		for _, behind := range []int{0, 1, 300} {
			b := append(wire("getdata", some(n, 3)), some(behind, 4)...)
			for i := range 8 * (24 + n) {
				b[i/8] ^= 1 << (i % 8)
				a := get(b)
				if want := model(b); a != want {
					t.Fatalf("%d bytes, bit %d: %v, not %v", n, i, a, want)
				}
				if at := i / 8; at < 4 && a != (got{e: api.ErrForm}) || at >= 20 && a != (got{n: 24 + n, e: api.ErrSum}) {
					t.Fatalf("%d bytes, bit %d: %v", n, i, a)
				}
				b[i/8] ^= 1 << (i % 8)
			}
		}
	}
}

// P5.3: each told length, where as many bytes are there as one frame may have.
func TestGetLengths(t *testing.T) {
	body := some(2048, 6)
	for size := range uint32(2100) {
		b := append(head("inv", size, 0), body...)
		if size > 2048 {
			if a := get(b); a != (got{e: api.ErrLong}) {
				t.Errorf("%d: %v", size, a)
			}
			continue
		}
		if a := get(b); a != (got{n: 24 + int(size), e: api.ErrSum}) {
			t.Errorf("%d: %v", size, a)
		}
		b = append(head("inv", size, check(body[:size])), body...)
		if a := get(b); a != whole("inv", body[:size]) {
			t.Errorf("%d: %v", size, a)
		}
	}
}

// P5.3: any bytes, and any head with the magic.
func TestGetAny(t *testing.T) {
	r := rand.New(rand.NewSource(9))
	for i := range 20000 {
		b := some(r.Intn(200), int64(i))
		if i%4 > 0 {
			b = append(raw("c4 f0 7a 1e"), b...)
		}
		if i%4 > 1 && len(b) > 24 {
			copy(b[4:], "tx\x00\x00\x00\x00\x00\x00\x00\x00\x00\x00")
			binary.LittleEndian.PutUint32(b[16:], uint32(r.Intn(len(b))))
		}
		if a, want := get(b), model(b); a != want {
			t.Fatalf("%x: %v, not %v", b, a, want)
		}
	}
}

// P5.4: what is put is got, whatever stands behind it; cut off it is too short.
func TestPutGet(t *testing.T) {
	tails := [][]byte{nil, {0}, {0xff}, raw("c4 f0 7a 1e"), wire("ping", some(8, 1)), make([]byte, 3000), some(300, 2)}
	for i, name := range names() {
		for _, n := range sizes() {
			body := some(n, int64(100*i+n))
			b, e := Put(name, body)
			if e != api.OK {
				t.Fatal(name, n, e)
			}
			if h, e := Head(b[:24]); h != (Header{name, n, check(body)}) || e != api.OK {
				t.Errorf("%s, %d bytes: %v %d", name, n, h, e)
			}
			for _, tail := range tails {
				if a := get(slices.Concat(b, tail)); a != whole(name, body) {
					t.Errorf("%s, %d bytes and %d: %v", name, n, len(tail), a)
				}
			}
		}
	}
}

// P5.4: cut off at any place.
func TestCutOff(t *testing.T) {
	for _, n := range sizes() {
		b, _ := Put("notfound", some(n, 3))
		for k := range b {
			// What stands behind the cut within the same memory doesn't count.
			if a := get(b[:k]); a != (got{e: api.ErrShort}) {
				t.Fatalf("%d of %d: %v", k, len(b), a)
			}
		}
		if a := get(b); a.e != api.OK {
			t.Error(n, a.e)
		}
	}
}

// P5.4: a row of frames is read one by one, by how many bytes each has, spoilt ones too.
func TestRow(t *testing.T) {
	var row []byte
	var want []got
	for i, name := range names() {
		body := some(sizes()[i%len(sizes())], int64(i))
		b, _ := Put(name, body)
		w := whole(name, body)
		switch {
		case i%3 == 1:
			b[20] ^= 0x80
			w = got{n: len(b), e: api.ErrSum}
		case i%3 == 2:
			b[4] = '_'
			w = got{n: len(b), e: api.ErrName}
		}
		row = append(row, b...)
		want = append(want, w)
	}
	for i, w := range want {
		if a := get(row); a != w {
			t.Fatalf("%d: %v", i, a)
		}
		row = row[w.n:]
	}
	if len(row) != 0 {
		t.Error(len(row), "bytes are left")
	}
}

// What is handed in is not changed, its spare room neither.
func TestUntouched(t *testing.T) {
	for _, n := range append(sizes(), 2049) {
		body := some(n, 1)
		w := roomy(body)
		Put("tx", w)
		Put("TX", w)
		if !untouched(w, body) {
			t.Error(n, "Put")
		}
		bad := wire("tx", body)
		bad[20] ^= 1
		for _, b := range [][]byte{wire("tx", body), wire("TX", body), bad, wire("tx", body)[:20]} {
			w := roomy(b)
			Get(w)
			Head(w)
			Head(w[:min(24, len(w))])
			if !untouched(w, b) {
				t.Error(n, "Get, Head")
			}
		}
	}
}

// An answer is new memory, its spare room too, and what is handed in is not kept.
func TestNewMemory(t *testing.T) {
	for _, n := range sizes() {
		body := some(n, 1)
		want := wire("tx", body)
		w := roomy(body)
		b, _ := Put("tx", w)
		again, _ := Put("tx", w)
		spoil(b)
		if !untouched(w, body) || !bytes.Equal(again, want) {
			t.Error(n, "Put shares")
		}
		spoil(w)
		if !bytes.Equal(again, want) {
			t.Error(n, "Put keeps")
		}
		row := roomy(want)
		h, _ := Head(row[:24])
		cmd, first, _, _ := Get(row)
		_, second, _, _ := Get(row)
		spoil(first)
		if !untouched(row, want) || !bytes.Equal(second, body) {
			t.Error(n, "Get shares")
		}
		spoil(row)
		if !bytes.Equal(second, body) || cmd != "tx" || h != (Header{"tx", n, check(body)}) {
			t.Error(n, "Get or Head keeps")
		}
	}
}

// What a call answers hangs on its arguments alone: asked again, whatever was asked between, it is the same.
func TestAgain(t *testing.T) {
	b := wire("tx", some(50, 1))
	for range 3 {
		if a := get(b); a != whole("tx", some(50, 1)) {
			t.Error(a)
		}
		get(b[:30])
		get(make([]byte, 24))
		Put("pong", nil)
		if f, e := Put("tx", some(50, 1)); e != api.OK || !bytes.Equal(f, b) {
			t.Errorf("%x %d", f, e)
		}
		empty, _ := Put("verack", nil)
		spoil(empty)
		if h, e := Head(wire("verack", nil)); h != (Header{"verack", 0, 0xe2e0f65d}) || e != api.OK {
			t.Error(h, e)
		}
	}
}
