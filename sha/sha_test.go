package sha

import (
	"bytes"
	"crypto/sha256"
	"encoding"
	"encoding/binary"
	"encoding/hex"
	"hash"
	"math"
	"math/rand"
	"slices"
	"strings"
	"testing"

	"pappus/api"
)

// start is the first state, as the chapter has it.
var start = [8]uint32{0x6a09e667, 0xbb67ae85, 0x3c6ef372, 0xa54ff53a, 0x510e527f, 0x9b05688c, 0x1f83d9ab, 0x5be0cd19}

// sum is the sum that a text of hex digits, with spaces between, stands for.
func sum(text string) api.Hash {
	b, err := hex.DecodeString(strings.ReplaceAll(text, " ", ""))
	if err != nil || len(b) != 32 {
		panic(text)
	}
	return api.Hash(b)
}

// some are n bytes of all kinds, others for another seed.
func some(n int, seed int64) []byte {
	b := make([]byte, n)
	rand.New(rand.NewSource(seed)).Read(b)
	return b
}

// lengths are those at which the last block turns into two, and into none, and all between.
func lengths() []int {
	var l []int
	for n := range 260 {
		l = append(l, n)
	}
	return append(l, 1023, 1024, 1025, 4096, 65535, 65536, 1<<20+55, 1<<20+56)
}

// resumed is the library's hasher with that state, of that many bytes: full blocks of them.
func resumed(s [8]uint32, size uint64) hash.Hash {
	b := []byte("sha\x03")
	for _, x := range s {
		b = binary.BigEndian.AppendUint32(b, x)
	}
	b = append(b, make([]byte, 64)...)
	b = binary.BigEndian.AppendUint64(b, size)
	h := sha256.New()
	if err := h.(encoding.BinaryUnmarshaler).UnmarshalBinary(b); err != nil {
		panic(err)
	}
	return h
}

// stateOf is the state of the library's hasher.
func stateOf(h hash.Hash) (s [8]uint32) {
	b, err := h.(encoding.BinaryMarshaler).MarshalBinary()
	if err != nil {
		panic(err)
	}
	for i := range s {
		s[i] = binary.BigEndian.Uint32(b[4+4*i:])
	}
	return s
}

// cut is b in pieces of n bytes, the last one perhaps shorter.
func cut(b []byte, n int) [][]byte {
	return slices.Collect(slices.Chunk(b, n))
}

// roomy is a copy of b with spare room that is filled.
func roomy(b []byte) []byte {
	w := bytes.Repeat([]byte{0xaa}, len(b)+72)
	copy(w, b)
	return w[:len(b)]
}

// untouched says whether w, of roomy(b), and its spare room are as they were.
func untouched(w, b []byte) bool {
	all := w[:len(b)+72]
	return bytes.Equal(all[:len(b)], b) && bytes.Equal(all[len(b):], bytes.Repeat([]byte{0xaa}, 72))
}

// want fails unless h has just b's bytes.
func want(t *testing.T, h *Hasher, b []byte, what ...any) {
	t.Helper()
	got, e := h.Sum()
	if got != sha256.Sum256(b) || e != api.OK {
		t.Error(append(what, "sum", got, e)...)
	}
	if h.Len() != uint64(len(b)) {
		t.Error(append(what, "len", h.Len(), len(b))...)
	}
}

// P3.1: the examples of the chapter, and of the standard.
func TestExamples(t *testing.T) {
	for _, x := range []struct {
		text, want string
	}{
		{"abc", "ba7816bf 8f01cfea 414140de 5dae2223 b00361a3 96177a9c b410ff61 f20015ad"},
		{"", "e3b0c442 98fc1c14 9afbf4c8 996fb924 27ae41e4 649b934c a495991b 7852b855"},
		{"abcdbcdecdefdefgefghfghighijhijkijkljklmklmnlmnomnopnopq", "248d6a61 d20638b8 e5c02693 0c3e6039 a33ce459 64ff2167 f6ecedd4 19db06c1"},
		{strings.Repeat("a", 1000000), "cdc76e5c 9914fb92 81a1c7e2 84d73e67 f1809a48 a497200e 046d39cc c7112cd0"},
	} {
		if got := Sum([]byte(x.text)); got != sum(x.want) {
			t.Errorf("%.60q: %x", x.text, got)
		}
	}
}

// P3.1: Block, of the first state and of any.
func TestBlock(t *testing.T) {
	var empty [64]byte
	empty[0] = 0x80
	got := Block(start, empty)
	if got != [8]uint32{0xe3b0c442, 0x98fc1c14, 0x9afbf4c8, 0x996fb924, 0x27ae41e4, 0x649b934c, 0xa495991b, 0x7852b855} {
		t.Errorf("%08x", got)
	}
	high := [8]uint32{}
	for i := range high {
		high[i] = math.MaxUint32
	}
	states := [][8]uint32{start, {}, high, {1}, {7: 1}, {0x80000000}, {7: 0x80000000}}
	blocks := [][64]byte{{}, empty, [64]byte(bytes.Repeat([]byte{0xff}, 64)), {63: 1}}
	r := rand.New(rand.NewSource(1))
	for i := range 60 {
		var s [8]uint32
		for k := range s {
			s[k] = r.Uint32()
		}
		states = append(states, s)
		blocks = append(blocks, [64]byte(some(64, int64(i))))
	}
	for _, s := range states {
		for _, b := range blocks {
			h := resumed(s, 0)
			h.Write(b[:])
			if got := Block(s, b); got != stateOf(h) {
				t.Fatalf("Block(%08x, %x): %08x, not %08x", s, b, got, stateOf(h))
			}
		}
	}
}

// P3.1: each bit of a block, and of a state, tells.
func TestBlockBits(t *testing.T) {
	seen := map[[8]uint32]int{}
	for i := range 512 {
		var b [64]byte
		b[i/8] = 1 << (i % 8)
		seen[Block(start, b)]++
	}
	for i := range 256 {
		s := start
		s[i/32] ^= 1 << (i % 32)
		seen[Block(s, [64]byte{})]++
	}
	if len(seen) != 768 {
		t.Error(len(seen))
	}
}

// P3.1: Sum, Twice and Check at the edges of blocks.
func TestSum(t *testing.T) {
	for _, n := range lengths() {
		b := some(n, int64(n))
		once := sha256.Sum256(b)
		twice := sha256.Sum256(once[:])
		if got := Sum(b); got != once {
			t.Errorf("Sum of %d bytes: %x", n, got)
		}
		if got := Twice(b); got != twice {
			t.Errorf("Twice of %d bytes: %x", n, got)
		}
		if got := Check(b); got != binary.LittleEndian.Uint32(twice[:4]) {
			t.Errorf("Check of %d bytes: %x", n, got)
		}
	}
}

// P3.1: bytes of one kind, among them those that stand behind the bytes within the last block.
func TestSumPlain(t *testing.T) {
	for _, c := range []byte{0, 0x80, 0xff} {
		for n := range 130 {
			b := bytes.Repeat([]byte{c}, n)
			if got := Sum(b); got != sha256.Sum256(b) {
				t.Errorf("Sum of %d bytes %x: %x", n, c, got)
			}
		}
	}
}

// P3.1: nothing, in whatever form it comes.
func TestSumNothing(t *testing.T) {
	none := sum("e3b0c442 98fc1c14 9afbf4c8 996fb924 27ae41e4 649b934c a495991b 7852b855")
	again := sum("5df6e0e2 761359d3 0a827505 8e299fcc 03815345 45f55cf4 3e41983f 5d4c9456")
	for i, l := range [][][]byte{nil, {}, {nil}, {{}}, {nil, {}, nil}} {
		if got := Sum(l...); got != none {
			t.Errorf("Sum %d: %x", i, got)
		}
		if got := Twice(l...); got != again {
			t.Errorf("Twice %d: %x", i, got)
		}
	}
	if Check(nil) != 0xe2e0f65d || Check([]byte{}) != 0xe2e0f65d {
		t.Errorf("Check: %x %x", Check(nil), Check([]byte{}))
	}
}

// P3.1: the count of bits has eight bytes, the highest first; so many bytes no test can write.
func TestCount(t *testing.T) {
	for _, size := range []uint64{1 << 29, 1<<29 + 64, 1 << 37, 1 << 45, 1 << 53, 0x1f1f2f3f4f5f6f40, 1<<61 - 64} {
		h := &Hasher{size: size, state: start}
		o := resumed(start, size)
		for _, n := range []int{0, 1, 54} {
			h.Write(make([]byte, n))
			o.Write(make([]byte, n))
			if got, e := h.Sum(); !bytes.Equal(got[:], o.Sum(nil)) || e != api.OK {
				t.Errorf("%x and %d more: %x", size, n, got)
			}
		}
	}
}

// P3.2
func TestHasher(t *testing.T) {
	for _, n := range lengths() {
		h := New()
		want(t, h, nil, "new")
		b := some(n, int64(n))
		if e := h.Write(b); e != api.OK {
			t.Error(n, e)
		}
		want(t, h, b, n)
	}
}

// P3.2: nothing is written, in whatever form it comes.
func TestWriteNothing(t *testing.T) {
	for _, n := range []int{0, 1, 55, 56, 63, 64, 65, 128} {
		h := New()
		b := some(n, 3)
		h.Write(b)
		for i, l := range [][][]byte{nil, {}, {nil}, {{}}, {nil, {}, nil}} {
			if e := h.Write(l...); e != api.OK {
				t.Error(n, i, e)
			}
			want(t, h, b, n, i)
		}
	}
}

// P3.2: a sum asked for, once or twice, changes nothing of what is written behind it.
func TestSumStays(t *testing.T) {
	sizes := []int{0, 1, 8, 54, 55, 56, 57, 63, 64, 65, 119, 120, 127, 128, 129}
	for _, n := range sizes {
		for _, more := range sizes {
			b := some(n+more, int64(n))
			h := New()
			h.Write(b[:n])
			want(t, h, b[:n], n)
			want(t, h, b[:n], n, "again")
			h.Write(b[n:])
			want(t, h, b, n, more)
			want(t, h, b, n, more, "again")
		}
	}
}

// P3.2: a sum asked for behind every byte.
func TestSumEachByte(t *testing.T) {
	b := some(300, 5)
	h := New()
	for i := range b {
		h.Write(b[i : i+1])
		want(t, h, b[:i+1], i)
	}
}

// P3.2: of a nil hasher ErrNil, zero beside it, and Len 0; and it stays so.
func TestNil(t *testing.T) {
	var h *Hasher
	for range 2 {
		for i, l := range [][][]byte{nil, {nil}, {[]byte("abc")}, cut(some(200, 1), 7)} {
			if e := h.Write(l...); e != api.ErrNil {
				t.Error(i, e)
			}
		}
		if s, e := h.Sum(); s != (api.Hash{}) || e != api.ErrNil {
			t.Error(s, e)
		}
		if h.Len() != 0 {
			t.Error(h.Len())
		}
	}
}

// P3.2: a Hasher that New didn't make has no bytes either.
func TestZero(t *testing.T) {
	var h Hasher
	want(t, &h, nil)
	h.Write([]byte("abc"))
	want(t, &h, []byte("abc"))
}

// P3.2: hashers are independent of each other.
func TestTwoHashers(t *testing.T) {
	a, b := some(200, 1), some(200, 2)
	g, h := New(), New()
	if g == h {
		t.Fatal("one hasher")
	}
	for i := range 200 {
		g.Write(a[i : i+1])
		h.Write(b[i:i+1], nil)
		want(t, g, a[:i+1], "first", i)
		want(t, h, b[:i+1], "second", i)
	}
}

// P3.3: in two pieces, cut anywhere; handed over at once, or one by one.
func TestTwoPieces(t *testing.T) {
	for _, n := range []int{1, 55, 56, 63, 64, 65, 119, 120, 127, 128, 129, 200} {
		b := some(n, int64(n))
		once := sha256.Sum256(b)
		for k := range n + 1 {
			if got := Sum(b[:k], b[k:]); got != once {
				t.Errorf("Sum of %d and %d: %x", k, n-k, got)
			}
			if got := Twice(b[:k], b[k:]); got != sha256.Sum256(once[:]) {
				t.Errorf("Twice of %d and %d: %x", k, n-k, got)
			}
			g, h := New(), New()
			g.Write(b[:k], b[k:])
			h.Write(b[:k])
			h.Write(b[k:])
			want(t, g, b, "at once", k, n)
			want(t, h, b, "one by one", k, n)
		}
	}
}

// P3.3: in pieces of one size each, one byte a piece among them.
func TestEvenPieces(t *testing.T) {
	for _, n := range []int{1, 2, 55, 56, 63, 64, 65, 119, 120, 127, 128, 129, 1000} {
		b := some(n, int64(n))
		for _, size := range []int{1, 2, 3, 7, 31, 32, 55, 56, 63, 64, 65, 127, 128, 129, 1000} {
			l := cut(b, size)
			if got := Sum(l...); got != sha256.Sum256(b) {
				t.Errorf("%d bytes in pieces of %d: %x", n, size, got)
			}
			h := New()
			for _, piece := range l {
				h.Write(piece, nil)
			}
			want(t, h, b, n, size)
		}
	}
}

// P3.3: in pieces of any sizes, none among them.
func TestAnyPieces(t *testing.T) {
	r := rand.New(rand.NewSource(9))
	for i := range 300 {
		b := some(r.Intn(600), int64(i))
		h := New()
		var l [][]byte
		for rest := b; len(rest) > 0; {
			n := min(r.Intn(140), len(rest))
			l = append(l, rest[:n])
			rest = rest[n:]
			if r.Intn(3) == 0 {
				h.Write(l...)
				l = nil
			}
		}
		h.Write(l...)
		want(t, h, b, i)
	}
}

// What is handed in is not changed: neither the pieces, nor their spare room, nor their list.
func TestUntouched(t *testing.T) {
	for _, n := range []int{0, 1, 55, 56, 63, 64, 65, 130} {
		b, c := some(n, 1), some(n, 2)
		list := [][]byte{roomy(b), roomy(c), []byte("spare")}
		l := list[:2]
		h := New()
		Sum(l...)
		Twice(l...)
		h.Write(l...)
		h.Sum()
		Check(l[0])
		if len(l) != 2 || !untouched(l[0], b) || !untouched(l[1], c) || string(list[2]) != "spare" {
			t.Error(n, list)
		}
	}
	s, block := start, [64]byte{1, 2, 3}
	Block(s, block)
	if s != start || block != [64]byte{1, 2, 3} {
		t.Error(s, block)
	}
}

// What is handed in is not kept: changed later, it changes nothing.
func TestNotKept(t *testing.T) {
	for _, n := range []int{1, 55, 56, 63, 64, 65, 130} {
		b := some(n, 1)
		w := slices.Clone(b)
		h := New()
		h.Write(w)
		clear(w)
		want(t, h, b, n)
	}
}
