package mac

import (
	"bytes"
	"crypto/hmac"
	"crypto/sha256"
	"encoding/binary"
	"encoding/hex"
	"math"
	"math/big"
	"math/rand"
	"slices"
	"strings"
	"testing"

	"pappus/api"
)

// hash is the sum that a text of hex digits, with spaces between, stands for.
func hash(text string) api.Hash {
	return api.Hash(unhex(text))
}

// unhex are the bytes that a text of hex digits, with spaces between, stands for.
func unhex(text string) []byte {
	b, err := hex.DecodeString(strings.ReplaceAll(text, " ", ""))
	if err != nil {
		panic(text)
	}
	return b
}

// some are n bytes of all kinds, others for another seed.
func some(n int, seed int64) []byte {
	b := make([]byte, n)
	rand.New(rand.NewSource(seed)).Read(b)
	return b
}

// oracle is the library's sum under a key.
func oracle(key, b []byte) api.Hash {
	h := hmac.New(sha256.New, key)
	h.Write(b)
	return api.Hash(h.Sum(nil))
}

// keySizes are those about which a key's block and its sum's are full, and far greater ones.
func keySizes() []int {
	return []int{0, 1, 2, 31, 32, 33, 55, 56, 62, 63, 64, 65, 66, 70, 127, 128, 129, 1000, 65536, 1<<20 + 1}
}

// sizes are those of bytes about which blocks are full.
func sizes() []int {
	return []int{0, 1, 8, 10, 54, 55, 56, 57, 63, 64, 65, 119, 120, 127, 128, 129, 1000, 5000}
}

// cut is b in pieces of n bytes, the last one perhaps shorter.
func cut(b []byte, n int) [][]byte {
	return slices.Collect(slices.Chunk(b, n))
}

// room is how many bytes of spare room roomy leaves.
const room = 136

// roomy is a copy of b with spare room that is filled.
func roomy(b []byte) []byte {
	w := bytes.Repeat([]byte{0xaa}, len(b)+room)
	copy(w, b)
	return w[:len(b)]
}

// untouched says whether w, of roomy(b), and its spare room are as they were.
func untouched(w, b []byte) bool {
	all := w[:len(b)+room]
	return bytes.Equal(all[:len(b)], b) && bytes.Equal(all[len(b):], bytes.Repeat([]byte{0xaa}, room))
}

// modulo is what the first eight bytes of h, the lowest first, leave by n.
func modulo(h api.Hash, n int) int {
	b := slices.Clone(h[:8])
	slices.Reverse(b)
	x := new(big.Int).SetBytes(b)
	return int(x.Mod(x, big.NewInt(int64(n))).Int64())
}

// way is Route, by the library alone.
func way(salt api.Hash, epoch uint64, source, n int) int {
	b := binary.LittleEndian.AppendUint64(nil, epoch)
	b = binary.LittleEndian.AppendUint16(b, uint16(source))
	return modulo(oracle(salt[:], b), n)
}

// P4.1: the example of the chapter, and those of the standard (RFC 4231).
func TestExamples(t *testing.T) {
	counted := unhex("0102030405060708090a0b0c0d0e0f10111213141516171819")
	long := bytes.Repeat([]byte{0xaa}, 131)
	for i, x := range []struct {
		key  []byte
		text string
		want string
	}{
		{[]byte("Jefe"), "what do ya want for nothing?", "5bdcc146 bf60754e 6a042426 089575c7 5a003f08 9d273983 9dec58b9 64ec3843"},
		{bytes.Repeat([]byte{0x0b}, 20), "Hi There", "b0344c61 d8db3853 5ca8afce af0bf12b 881dc200 c9833da7 26e9376c 2e32cff7"},
		{bytes.Repeat([]byte{0xaa}, 20), strings.Repeat("\xdd", 50), "773ea91e 36800e46 854db8eb d09181a7 2959098b 3ef8c122 d9635514 ced565fe"},
		{counted, strings.Repeat("\xcd", 50), "82558a38 9a443c0e a4cc8198 99f2083a 85f0faa3 e578f807 7a2e3ff4 6729665b"},
		{long, "Test Using Larger Than Block-Size Key - Hash Key First", "60e43159 1ee0b67f 0d8a26aa cbf5b77f 8e0bc621 3728c514 0546040f 0ee37f54"},
	} {
		if got := Sum(x.key, []byte(x.text)); got != hash(x.want) {
			t.Errorf("%d: %x", i, got)
		}
	}
}

// P4.1: keys of every size up to two blocks and beyond, far longer ones, and no key at all.
func TestKeys(t *testing.T) {
	lengths := keySizes()
	for n := range 140 {
		lengths = append(lengths, n)
	}
	for _, n := range lengths {
		key := some(n, int64(n))
		for _, size := range []int{0, 1, 28, 64, 200} {
			b := some(size, int64(size)+7)
			if got := Sum(key, b); got != oracle(key, b) {
				t.Errorf("a key of %d bytes, %d bytes: %x", n, size, got)
			}
		}
	}
}

// P4.1: keys of one kind of byte, among them those that an xor leaves 0.
func TestPlainKeys(t *testing.T) {
	for _, c := range []byte{0, 0x36, 0x5c, 0x6a, 0x80, 0xff} {
		for _, n := range []int{1, 32, 63, 64, 65, 128} {
			key := bytes.Repeat([]byte{c}, n)
			if got := Sum(key, []byte("ab")); got != oracle(key, []byte("ab")) {
				t.Errorf("%d bytes %x: %x", n, c, got)
			}
		}
	}
}

// P4.1: bytes 0 behind a key tell nothing up to 64 bytes, and something beyond; a longer key is as its sum.
func TestKeyBlock(t *testing.T) {
	b := []byte("some bytes")
	for _, n := range []int{0, 1, 32, 63} {
		key := some(n, 4)
		wide := append(slices.Clone(key), make([]byte, 64-n)...)
		if Sum(key, b) != Sum(wide, b) {
			t.Error(n, "a block's noughts tell")
		}
		if Sum(key, b) == Sum(append(wide, 0), b) {
			t.Error(n, "65 bytes are as 64")
		}
	}
	for _, n := range []int{65, 66, 1000} {
		key := some(n, 5)
		sum := sha256.Sum256(key)
		if Sum(key, b) != Sum(sum[:], b) {
			t.Error(n, "a long key isn't as its sum")
		}
	}
	full := some(64, 6)
	sum := sha256.Sum256(full)
	if Sum(full, b) == Sum(sum[:], b) {
		t.Error("a key of 64 bytes is as its sum")
	}
}

// P4.1: no key is as an empty one.
func TestNoKey(t *testing.T) {
	none := hash("b613679a 0814d9ec 772f95d7 78c35fc5 ff1697c4 93715653 c6c71214 4292c5ad")
	for i, key := range [][]byte{nil, {}, make([]byte, 1), make([]byte, 64), some(5, 1)[:0]} {
		if got := Sum(key); got != none {
			t.Errorf("%d: %x", i, got)
		}
		if got := Sum(key, []byte("ab")); got != oracle(nil, []byte("ab")) {
			t.Errorf("%d: %x", i, got)
		}
	}
}

// P4.1: each bit of a key tells, a short one's, a full one's and a long one's; and each bit of the bytes.
func TestBits(t *testing.T) {
	for _, n := range []int{1, 32, 63, 64, 65, 130} {
		b := some(n, 2)
		keys, texts := map[api.Hash]int{}, map[api.Hash]int{}
		keys[Sum(b, []byte("ab"))]++
		texts[Sum([]byte("ab"), b)]++
		for i := range 8 * n {
			other := slices.Clone(b)
			other[i/8] ^= 1 << (i % 8)
			keys[Sum(other, []byte("ab"))]++
			texts[Sum([]byte("ab"), other)]++
		}
		if len(keys) != 8*n+1 || len(texts) != 8*n+1 {
			t.Error(n, len(keys), len(texts))
		}
	}
}

// P4.1: no pieces, empty pieces and nil pieces are no bytes, alone and between others.
func TestNothing(t *testing.T) {
	for _, n := range keySizes() {
		key := some(n, 3)
		for i, l := range [][][]byte{nil, {}, {nil}, {{}}, {nil, {}, nil}} {
			if got := Sum(key, l...); got != oracle(key, nil) {
				t.Errorf("a key of %d bytes, %d: %x", n, i, got)
			}
		}
		for i, l := range [][][]byte{{nil, []byte("abc")}, {[]byte("abc"), nil}, {[]byte("a"), {}, nil, []byte("bc")}} {
			if got := Sum(key, l...); got != oracle(key, []byte("abc")) {
				t.Errorf("a key of %d bytes, %d: %x", n, i, got)
			}
		}
	}
}

// P4.1: bytes of any number, whole and in pieces, one byte a piece among them.
func TestPieces(t *testing.T) {
	for _, k := range []int{0, 4, 32, 63, 64, 65, 200} {
		key := some(k, int64(k))
		for _, n := range sizes() {
			b := some(n, int64(n)+11)
			want := oracle(key, b)
			if got := Sum(key, b); got != want {
				t.Errorf("a key of %d bytes, %d bytes: %x", k, n, got)
			}
			for _, size := range []int{1, 2, 7, 55, 63, 64, 65, 128} {
				if got := Sum(key, cut(b, size)...); got != want {
					t.Errorf("a key of %d bytes, %d in pieces of %d: %x", k, n, size, got)
				}
			}
		}
	}
}

// P4.1: bytes cut in two at any place.
func TestTwoPieces(t *testing.T) {
	key, b := some(20, 1), some(150, 2)
	for k := range len(b) + 1 {
		if got := Sum(key, b[:k], b[k:]); got != oracle(key, b) {
			t.Errorf("%d: %x", k, got)
		}
	}
}

// P4.1: a key and a piece may be the same bytes, or of the same memory.
func TestKeyAsPiece(t *testing.T) {
	b := some(200, 8)
	for _, n := range []int{1, 64, 65, 200} {
		if got := Sum(b[:n], b[:n], b, b[:n]); got != oracle(b[:n], slices.Concat(b[:n], b, b[:n])) {
			t.Errorf("%d: %x", n, got)
		}
	}
}

// P4.1: where a key ends and the bytes begin tells.
func TestKeyAndBytes(t *testing.T) {
	b := some(100, 9)
	seen := map[api.Hash]int{}
	for k := range len(b) + 1 {
		seen[Sum(b[:k], b[k:])]++
	}
	if len(seen) != len(b)+1 {
		t.Error(len(seen))
	}
}

// P4.1: the same bytes, as many of them.
func TestSame(t *testing.T) {
	for i, x := range []struct {
		a, b []byte
		want bool
	}{
		{nil, nil, true},
		{nil, []byte{}, true},
		{[]byte{}, []byte{}, true},
		{nil, []byte{0}, false},
		{[]byte{}, []byte{0}, false},
		{[]byte{0}, []byte{0}, true},
		{[]byte{0}, []byte{0, 0}, false},
		{[]byte{1}, []byte{2}, false},
		{[]byte("ab"), []byte("ab"), true},
		{[]byte("ab"), []byte("ba"), false},
		{[]byte("ab"), []byte("ac"), false},
		{[]byte("ab"), []byte("abc"), false},
		{[]byte("bc"), []byte("abc"), false},
		{[]byte("ab"), []byte("AB"), false},
		{[]byte{0xff, 0xfe}, []byte{0xfd, 0xfc}, false},
		{[]byte{1, 2, 3}, []byte{3, 0, 3}, false},
		{[]byte{1, 1}, []byte{2, 2}, false},
	} {
		if Same(x.a, x.b) != x.want || Same(x.b, x.a) != x.want {
			t.Error(i, !x.want)
		}
	}
}

// P4.1: one bit, wherever it is, and one byte more or fewer, make others of them.
func TestSameBits(t *testing.T) {
	for _, n := range []int{1, 2, 31, 32, 33, 64, 300} {
		a := some(n, int64(n))
		if !Same(a, a) || !Same(a, slices.Clone(a)) || !Same(a, roomy(a)) {
			t.Error(n, "not the same")
		}
		for i := range 8 * n {
			b := slices.Clone(a)
			b[i/8] ^= 1 << (i % 8)
			if Same(a, b) || Same(b, a) {
				t.Error(n, "bit", i)
			}
		}
		for _, b := range [][]byte{a[:n-1], a[1:], append(slices.Clone(a), 0), append([]byte{0}, a...), slices.Concat(a, a), nil} {
			if Same(a, b) || Same(b, a) {
				t.Error(n, len(b), "bytes")
			}
		}
	}
}

// P4.1: every pair of short rows of bytes.
func TestSamePairs(t *testing.T) {
	rows := [][]byte{nil}
	for i := range 120 {
		rows = append(rows, []byte{0, 1, 2, 3}[:i%5%4], some(i%3+1, int64(i)), make([]byte, i%6))
	}
	for _, a := range rows {
		for _, b := range rows {
			if Same(a, b) != (string(a) == string(b)) {
				t.Errorf("%x %x: %v", a, b, Same(a, b))
			}
		}
	}
}

// P4.2: the example of the chapter, and the edges.
func TestPick(t *testing.T) {
	greatest := api.Hash{0xff, 0xff, 0xff, 0xff, 0xff, 0xff, 0xff, 0xff}
	top := api.Hash{0, 0, 0, 0, 0, 0, 0, 0x80}
	for i, x := range []struct {
		h       api.Hash
		n, want int
	}{
		{api.Hash{7}, 5, 2},
		{api.Hash{7}, 7, 0},
		{api.Hash{7}, 8, 7},
		{api.Hash{7}, 1, 0},
		{api.Hash{}, 1, 0},
		{api.Hash{}, 5, 0},
		{api.Hash{}, math.MaxInt64, 0},
		{api.Hash{0, 1}, 1000, 256},
		{api.Hash{0x02, 0x01}, 1000, 258},
		{api.Hash{7: 1}, math.MaxInt64, 1 << 56},
		{api.Hash{8: 1}, 100, 0},
		{api.Hash{31: 1}, 100, 0},
		{greatest, 1, 0},
		{greatest, 2, 1},
		{greatest, 10, 5},
		{greatest, 64, 63},
		{greatest, math.MaxInt32, 3},
		{greatest, math.MaxInt64, 1},
		{greatest, math.MaxInt64 - 1, 3},
		{top, 3, 2},
		{top, math.MaxInt64, 1},
		{top, 1 << 62, 0},
	} {
		if got, e := Pick(x.h, x.n); got != x.want || e != api.OK {
			t.Error(i, got, e)
		}
	}
}

// P4.2: ErrArg, zero beside it, if n is below 1.
func TestPickArg(t *testing.T) {
	for _, h := range []api.Hash{{}, {9}, api.Hash(bytes.Repeat([]byte{0xff}, 32))} {
		for _, n := range []int{0, -1, -2, -5, math.MinInt32, math.MinInt64 + 1, math.MinInt64} {
			if got, e := Pick(h, n); got != 0 || e != api.ErrArg {
				t.Error(n, got, e)
			}
		}
	}
}

// P4.2: any hash, any n; only the first eight bytes tell.
func TestPickAny(t *testing.T) {
	r := rand.New(rand.NewSource(3))
	for i := range 2000 {
		h := api.Hash(some(32, int64(i)))
		for _, n := range []int{1, 2, 3, 10, 64, 255, 256, 257, 1 + r.Intn(1000), 1 + r.Intn(math.MaxInt32), 1 + r.Intn(math.MaxInt64), math.MaxInt64} {
			want := modulo(h, n)
			if got, e := Pick(h, n); got != want || e != api.OK {
				t.Fatal(h, n, got, e)
			}
			other := api.Hash(some(32, int64(-i-1)))
			copy(other[:8], h[:8])
			if got, e := Pick(other, n); got != want || e != api.OK {
				t.Fatal(other, n, got, e)
			}
		}
	}
}

// P4.3: sources from 0 to Self, epochs from the least to the greatest, and many n.
func TestRoute(t *testing.T) {
	salts := []api.Hash{{}, {1}, {31: 1}, api.Hash(bytes.Repeat([]byte{0xff}, 32)), api.Hash(some(32, 1))}
	epochs := []uint64{0, 1, 2, 255, 256, 65535, 65536, math.MaxUint32, math.MaxUint32 + 1, 1 << 56, 1 << 63, math.MaxUint64 - 1, math.MaxUint64}
	for _, salt := range salts {
		for _, epoch := range epochs {
			for source := range api.Self + 1 {
				for _, n := range []int{1, 2, 3, 7, 64, math.MaxInt32, math.MaxInt64} {
					if got, e := Route(salt, epoch, source, n); got != way(salt, epoch, source, n) || e != api.OK {
						t.Fatal(salt, epoch, source, n, got, e)
					}
				}
			}
		}
	}
}

// P4.3: the bytes of the epoch and of the source, written out: the lowest first.
func TestRouteOrder(t *testing.T) {
	salt := api.Hash{1}
	b := []byte{3, 0, 0, 0, 0, 0, 0, 0, 64, 0}
	if got, e := Route(salt, 3, api.Self, math.MaxInt64); got != modulo(oracle(salt[:], b), math.MaxInt64) || e != api.OK {
		t.Error(got, e)
	}
	b = []byte{8, 7, 6, 5, 4, 3, 2, 1, 9, 0}
	if got, e := Route(salt, 0x0102030405060708, 9, math.MaxInt64); got != modulo(oracle(salt[:], b), math.MaxInt64) || e != api.OK {
		t.Error(got, e)
	}
}

// P4.3: ErrArg, zero beside it, for a source below 0 or above Self, and for n below 1.
func TestRouteArg(t *testing.T) {
	bad := []int{math.MinInt64, math.MinInt32, -65536, -64, -1}
	for _, salt := range []api.Hash{{}, {1}, api.Hash(some(32, 1))} {
		for _, epoch := range []uint64{0, 3, math.MaxUint64} {
			for _, source := range append(slices.Clone(bad), api.Self+1, api.Self+2, 255, 256, 65535, 65536, 65536+api.Self, math.MaxInt64) {
				for _, n := range append(slices.Clone(bad), 0, 1, 2, 64, math.MaxInt64) {
					if got, e := Route(salt, epoch, source, n); got != 0 || e != api.ErrArg {
						t.Error(epoch, source, n, got, e)
					}
				}
			}
			for _, source := range []int{0, 1, api.Self - 1, api.Self} {
				for _, n := range append(slices.Clone(bad), 0) {
					if got, e := Route(salt, epoch, source, n); got != 0 || e != api.ErrArg {
						t.Error(epoch, source, n, got, e)
					}
				}
			}
		}
	}
}

// P4.4: each bit of the salt, each bit of the epoch and each source tells.
func TestRouteHangs(t *testing.T) {
	seen := map[int]int{}
	count := 0
	note := func(salt api.Hash, epoch uint64, source int) {
		got, e := Route(salt, epoch, source, math.MaxInt64)
		if e != api.OK {
			t.Error(epoch, source, e)
		}
		seen[got]++
		count++
	}
	base := api.Hash(some(32, 77))
	note(base, 5, 7)
	for i := range 256 {
		salt := base
		salt[i/8] ^= 1 << (i % 8)
		note(salt, 5, 7)
	}
	for i := range 64 {
		note(base, 5^1<<i, 7)
	}
	for source := range api.Self + 1 {
		if source != 7 {
			note(base, 5, source)
		}
	}
	if len(seen) != count {
		t.Error(len(seen), "ways of", count)
	}
}

// P4.4: on nothing else: asked again, whatever was asked between, the way is the same.
func TestRouteAgain(t *testing.T) {
	type asked struct {
		salt      api.Hash
		epoch     uint64
		source, n int
	}
	r := rand.New(rand.NewSource(4))
	first := map[asked]int{}
	var all []asked
	for i := range 500 {
		a := asked{api.Hash(some(32, int64(i%9))), uint64(r.Intn(50)), r.Intn(api.Self + 1), 1 + r.Intn(64)}
		got, e := Route(a.salt, a.epoch, a.source, a.n)
		if before, there := first[a]; e != api.OK || got < 0 || got >= a.n || there && before != got {
			t.Fatal(a, got, e)
		}
		first[a] = got
		all = append(all, a)
	}
	r.Shuffle(len(all), func(i, k int) { all[i], all[k] = all[k], all[i] })
	for _, a := range all {
		Route(a.salt, a.epoch, -1, 0)
		Sum(a.salt[:], []byte("between"))
		if got, e := Route(a.salt, a.epoch, a.source, a.n); got != first[a] || e != api.OK {
			t.Fatal(a, got, e)
		}
	}
}

// P4.4: every way is gone by some epoch's sources, and none twice as often as it should be.
func TestRouteSpread(t *testing.T) {
	salt := api.Hash(some(32, 6))
	for _, n := range []int{2, 3, 5, 8} {
		count := make([]int, n)
		for epoch := range uint64(100) {
			for source := range api.Self + 1 {
				got, e := Route(salt, epoch, source, n)
				if e != api.OK || got < 0 || got >= n {
					t.Fatal(epoch, source, n, got, e)
				}
				count[got]++
			}
		}
		for got, c := range count {
			if fair := 6500 / n; c < fair/2 || c > 2*fair {
				t.Error(n, got, c)
			}
		}
	}
}

// What is handed in is not changed: neither keys, nor pieces, nor their spare room, nor their list.
func TestUntouched(t *testing.T) {
	for _, k := range []int{0, 1, 32, 63, 64, 65, 130} {
		for _, n := range []int{0, 1, 55, 64, 130} {
			key, b, c := some(k, 1), some(n, 2), some(n, 3)
			wide := roomy(key)
			list := [][]byte{roomy(b), roomy(c), []byte("spare")}
			l := list[:2]
			Sum(wide, l...)
			Same(wide, l[0])
			Same(l[0], l[1])
			if !untouched(wide, key) || !untouched(list[0], b) || !untouched(list[1], c) || string(list[2]) != "spare" {
				t.Error(k, n)
			}
		}
	}
}

// What is handed in is not kept: changed behind a call, it changes nothing of the next.
func TestNotKept(t *testing.T) {
	for _, k := range []int{1, 64, 65} {
		key, b := some(k, 1), some(100, 2)
		before := Sum(key, b)
		want := before
		key[0] ^= 1
		b[0] ^= 1
		if got := Sum(key, b); got != oracle(key, b) || got == before {
			t.Error(k, "kept")
		}
		key[0] ^= 1
		b[0] ^= 1
		if got := Sum(key, b); got != want || before != want {
			t.Error(k, "not as before")
		}
	}
}
