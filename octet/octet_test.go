package octet

import (
	"bytes"
	"encoding/binary"
	"encoding/hex"
	"math"
	"slices"
	"strings"
	"testing"

	"pappus/api"
)

// edges are numbers at which widths and forms turn.
func edges() []uint64 {
	l := []uint64{250, 251, 252, 253, 254, 255, 256, 257, 258, 0x0102030405060708, 0xf1f2f3f4f5f6f7f8}
	for i := range 64 {
		l = append(l, 1<<i-1, 1<<i, 1<<i+1)
	}
	return append(l, math.MaxUint64-1, math.MaxUint64)
}

// raw is the bytes that a text of hex digits, with spaces between, stands for.
func raw(text string) []byte {
	b, err := hex.DecodeString(strings.ReplaceAll(text, " ", ""))
	if err != nil {
		panic(err)
	}
	return b
}

// low is x as n bytes, by the library.
func low(x uint64, n int) []byte {
	return binary.LittleEndian.AppendUint64(nil, x)[:n]
}

// forms are all ways to write x with a leading byte and more, and x alone where it is one byte.
func forms(x uint64) [][]byte {
	var l [][]byte
	if x < 253 {
		l = append(l, []byte{byte(x)})
	}
	for i, n := range []int{2, 4, 8} {
		if n == 8 || x < 1<<(8*n) {
			l = append(l, append([]byte{byte(253 + i)}, low(x, n)...))
		}
	}
	return l
}

// same says whether two lists hold the same parts: nil and empty are one.
func same(a, b [][]byte) bool { return slices.EqualFunc(a, b, bytes.Equal) }

// roomy is a copy of b with spare room that is filled.
func roomy(b []byte) []byte {
	w := bytes.Repeat([]byte{0xaa}, len(b)+32)
	copy(w, b)
	return w[:len(b)]
}

// untouched says whether w, of roomy(b), and its spare room are as they were.
func untouched(w, b []byte) bool {
	all := w[:cap(w)]
	spare := all[len(b) : len(b)+32]
	return bytes.Equal(all[:len(b)], b) && bytes.Equal(spare, bytes.Repeat([]byte{0xaa}, 32))
}

// P2.1
func TestPut(t *testing.T) {
	for _, x := range []struct {
		x    uint64
		n    int
		want string
		e    api.Errno
	}{
		{258, 2, "02 01", api.OK},
		{0, 1, "00", api.OK},
		{7, 1, "07", api.OK},
		{255, 1, "ff", api.OK},
		{256, 1, "", api.ErrRange},
		{255, 2, "ff 00", api.OK},
		{65535, 2, "ff ff", api.OK},
		{65536, 2, "", api.ErrRange},
		{65536, 4, "00 00 01 00", api.OK},
		{1<<32 - 1, 4, "ff ff ff ff", api.OK},
		{1 << 32, 4, "", api.ErrRange},
		{1 << 63, 4, "", api.ErrRange},
		{1 << 32, 8, "00 00 00 00 01 00 00 00", api.OK},
		{1<<64 - 1, 8, "ff ff ff ff ff ff ff ff", api.OK},
		{1<<64 - 1, 1, "", api.ErrRange},
		{0x0102030405060708, 8, "08 07 06 05 04 03 02 01", api.OK},
		// A width that may not be is named ahead of a number that is too great.
		{1<<64 - 1, 3, "", api.ErrArg},
	} {
		b, e := Put(x.x, x.n)
		if e != x.e || !bytes.Equal(b, raw(x.want)) {
			t.Errorf("Put(%d, %d): %x %d", x.x, x.n, b, e)
		}
	}
}

// P2.1
func TestPutWidths(t *testing.T) {
	for n := -20; n <= 140; n++ {
		good := slices.Contains([]int{1, 2, 4, 8}, n)
		b, e := Put(1, n)
		if good && (e != api.OK || !bytes.Equal(b, low(1, n))) || !good && (e != api.ErrArg || len(b) != 0) {
			t.Errorf("Put(1, %d): %x %d", n, b, e)
		}
	}
	for _, n := range []int{math.MinInt, math.MinInt + 1, math.MaxInt - 1, math.MaxInt, 1 << 32, 1<<32 + 1, 1<<61 + 1} {
		if b, e := Put(0, n); e != api.ErrArg || len(b) != 0 {
			t.Errorf("Put(0, %d): %x %d", n, b, e)
		}
	}
}

// P2.1
func TestPutEdges(t *testing.T) {
	for _, x := range edges() {
		for _, n := range []int{1, 2, 4, 8} {
			b, e := Put(x, n)
			if n < 8 && x >= 1<<(8*n) {
				if e != api.ErrRange || len(b) != 0 {
					t.Errorf("Put(%d, %d): %x %d", x, n, b, e)
				}
				continue
			}
			if e != api.OK || !bytes.Equal(b, low(x, n)) {
				t.Errorf("Put(%d, %d): %x %d", x, n, b, e)
			}
		}
	}
}

// P2.1
func TestGet(t *testing.T) {
	for _, x := range []struct {
		b    string
		want uint64
	}{
		{"00", 0}, {"07", 7}, {"ff", 255}, {"02 01", 258}, {"00 80", 32768}, {"ff ff", 65535},
		{"00 00 01 00", 65536}, {"ff ff ff ff", 1<<32 - 1}, {"00 00 00 80", 1 << 31},
		{"00 00 00 00 01 00 00 00", 1 << 32}, {"08 07 06 05 04 03 02 01", 0x0102030405060708},
		{"00 00 00 00 00 00 00 80", 1 << 63}, {"ff ff ff ff ff ff ff ff", 1<<64 - 1},
	} {
		if y, e := Get(raw(x.b)); e != api.OK || y != x.want {
			t.Errorf("Get(%s): %d %d", x.b, y, e)
		}
	}
	for n := range 40 {
		y, e := Get(bytes.Repeat([]byte{255}, n))
		good := slices.Contains([]int{1, 2, 4, 8}, n)
		if good != (e == api.OK) || !good && (e != api.ErrArg || y != 0) {
			t.Errorf("Get of %d bytes: %d %d", n, y, e)
		}
	}
	if y, e := Get(nil); e != api.ErrArg || y != 0 {
		t.Errorf("Get(nil): %d %d", y, e)
	}
}

// P2.2
func TestVar(t *testing.T) {
	for _, x := range []struct {
		x    uint64
		want string
	}{
		{0, "00"}, {1, "01"}, {127, "7f"}, {128, "80"}, {251, "fb"}, {252, "fc"},
		{253, "fd fd 00"}, {254, "fd fe 00"}, {255, "fd ff 00"}, {256, "fd 00 01"},
		{65534, "fd fe ff"}, {65535, "fd ff ff"},
		{65536, "fe 00 00 01 00"}, {1<<32 - 2, "fe fe ff ff ff"}, {1<<32 - 1, "fe ff ff ff ff"},
		{1 << 32, "ff 00 00 00 00 01 00 00 00"}, {1<<32 + 1, "ff 01 00 00 00 01 00 00 00"},
		{0x0102030405060708, "ff 08 07 06 05 04 03 02 01"},
		{1<<64 - 1, "ff ff ff ff ff ff ff ff ff"},
	} {
		if b := Var(x.x); !bytes.Equal(b, raw(x.want)) {
			t.Errorf("Var(%d): %x", x.x, b)
		}
		if n := Size(x.x); n != len(raw(x.want)) {
			t.Errorf("Size(%d): %d", x.x, n)
		}
	}
	for _, x := range edges() {
		want := forms(x)[0]
		if b := Var(x); !bytes.Equal(b, want) || Size(x) != len(want) {
			t.Errorf("Var(%d): %x; Size: %d", x, b, Size(x))
		}
	}
}

// P2.2
func TestRead(t *testing.T) {
	for _, x := range []struct {
		b string
		x uint64
		n int
		e api.Errno
	}{
		{"", 0, 0, api.ErrShort},
		{"00", 0, 1, api.OK},
		{"00 01 02", 0, 1, api.OK},
		{"fc", 252, 1, api.OK},
		{"fc fd fe", 252, 1, api.OK},
		{"fd", 0, 0, api.ErrShort},
		{"fd fd", 0, 0, api.ErrShort},
		{"fd fd 00", 253, 3, api.OK},
		{"fd fd 00 09", 253, 3, api.OK},
		{"fd fc 00", 0, 0, api.ErrForm},
		{"fd fc 00 09", 0, 0, api.ErrForm},
		{"fd 00 00", 0, 0, api.ErrForm},
		{"fd ff ff", 65535, 3, api.OK},
		{"fe", 0, 0, api.ErrShort},
		{"fe 00 00 01", 0, 0, api.ErrShort},
		{"fe 00 00 01 00", 65536, 5, api.OK},
		{"fe ff ff 00 00", 0, 0, api.ErrForm},
		{"fe fc 00 00 00", 0, 0, api.ErrForm},
		{"fe ff ff ff ff ff", 1<<32 - 1, 5, api.OK},
		{"ff", 0, 0, api.ErrShort},
		{"ff 00 00 00 00 01 00 00", 0, 0, api.ErrShort},
		{"ff 00 00 00 00 01 00 00 00", 1 << 32, 9, api.OK},
		{"ff ff ff ff ff 00 00 00 00", 0, 0, api.ErrForm},
		{"ff ff ff 00 00 00 00 00 00", 0, 0, api.ErrForm},
		{"ff 00 00 00 00 00 00 00 00", 0, 0, api.ErrForm},
		{"ff ff ff ff ff ff ff ff ff ff", 1<<64 - 1, 9, api.OK},
		// That it ends within is named ahead of its form, though no further byte could mend that.
		{"fe 01 00 00", 0, 0, api.ErrShort},
		{"ff 01 00 00 00 00 00 00", 0, 0, api.ErrShort},
	} {
		if y, n, e := Read(raw(x.b)); y != x.x || n != x.n || e != x.e {
			t.Errorf("Read(%s): %d %d %d", x.b, y, n, e)
		}
	}
}

// P2.2, P2.4: of all forms of a number only the shortest one is read, and no beginning of one.
func TestReadForms(t *testing.T) {
	for _, x := range edges() {
		for i, b := range forms(x) {
			for cut := range len(b) {
				if y, n, e := Read(b[:cut:cut]); y != 0 || n != 0 || e != api.ErrShort {
					t.Errorf("Read(%x): %d %d %d", b[:cut], y, n, e)
				}
			}
			for _, tail := range []string{"", "00", "ff ff ff ff ff ff ff ff ff"} {
				y, n, e := Read(append(bytes.Clone(b), raw(tail)...))
				good := y == x && n == len(b) && e == api.OK
				if i > 0 {
					good = y == 0 && n == 0 && e == api.ErrForm
				}
				if !good {
					t.Errorf("Read(%x %s): %d %d %d", b, tail, y, n, e)
				}
			}
		}
	}
}

// P2.3
func TestPack(t *testing.T) {
	for _, x := range []struct {
		l    [][]byte
		want string
	}{
		{nil, "00"},
		{[][]byte{}, "00"},
		{[][]byte{nil}, "01 00"},
		{[][]byte{{}}, "01 00"},
		{[][]byte{nil, {}, nil}, "03 00 00 00"},
		{[][]byte{[]byte("ab"), nil}, "02 02 61 62 00"},
		{[][]byte{nil, []byte("ab")}, "02 00 02 61 62"},
		{[][]byte{{0}, {1, 2, 3}, {255}}, "03 01 00 03 01 02 03 01 ff"},
	} {
		if b := Pack(x.l...); !bytes.Equal(b, raw(x.want)) {
			t.Errorf("Pack(%x): %x", x.l, b)
		}
	}
	if b := Pack(); !bytes.Equal(b, []byte{0}) {
		t.Errorf("Pack(): %x", b)
	}
}

// P2.3, P2.4: numbers and lengths of parts at which their own forms turn.
func TestPackEdges(t *testing.T) {
	for _, n := range []int{0, 1, 252, 253, 65535, 65536} {
		part := bytes.Repeat([]byte{0xfd}, n)
		want := slices.Concat([]byte{2}, forms(uint64(n))[0], part, []byte{1, 9})
		if b := Pack(part, []byte{9}); !bytes.Equal(b, want) {
			t.Errorf("Pack of a part of %d bytes begins with %x", n, b[:min(len(b), 9)])
		}
		if l, e := Unpack(want, 2); e != api.OK || !same(l, [][]byte{part, {9}}) {
			t.Errorf("Unpack of a part of %d bytes: %d", n, e)
		}

		parts := slices.Repeat([][]byte{{7}}, n)
		want = append(bytes.Clone(forms(uint64(n))[0]), bytes.Repeat([]byte{1, 7}, n)...)
		if b := Pack(parts...); !bytes.Equal(b, want) {
			t.Errorf("Pack of %d parts begins with %x", n, b[:min(len(b), 9)])
		}
		if l, e := Unpack(want, n); e != api.OK || !same(l, parts) {
			t.Errorf("Unpack of %d parts: %d of them, %d", n, len(l), e)
		}
		if l, e := Unpack(want, n-1); e != api.ErrLong || len(l) != 0 {
			t.Errorf("Unpack of %d parts where one fewer may be: %d of them, %d", n, len(l), e)
		}
	}
}

// P2.3
func TestUnpack(t *testing.T) {
	for _, x := range []struct {
		b    string
		most int
		l    [][]byte
		e    api.Errno
	}{
		{"02 02 61 62 00", 2, [][]byte{[]byte("ab"), nil}, api.OK},
		{"02 02 61 62 00", 3, [][]byte{[]byte("ab"), nil}, api.OK},
		{"02 02 61 62 00", math.MaxInt, [][]byte{[]byte("ab"), nil}, api.OK},
		{"02 02 61 62 00", 1, nil, api.ErrLong},
		{"02 02 61 62 00", 0, nil, api.ErrLong},
		{"02 02 61 62 00", -1, nil, api.ErrLong},
		{"00", 0, nil, api.OK},
		{"00", 5, nil, api.OK},
		{"00", -1, nil, api.ErrLong},
		{"00", math.MinInt, nil, api.ErrLong},
		{"01 00", 1, [][]byte{nil}, api.OK},
		{"03 00 00 00", 3, [][]byte{nil, nil, nil}, api.OK},

		// How many there are.
		{"", 5, nil, api.ErrShort},
		{"fd", 5, nil, api.ErrShort},
		{"fd 01", 5, nil, api.ErrShort},
		{"fd 01 00 00", 5, nil, api.ErrForm},
		{"ff 01 00 00 00 00 00 00 00", 5, nil, api.ErrForm},
		{"ff ff ff ff ff ff ff ff ff", math.MaxInt, nil, api.ErrLong},
		{"ff 00 00 00 00 00 00 00 80", math.MaxInt, nil, api.ErrLong},
		{"ff ff ff ff ff ff ff ff 7f", math.MaxInt, nil, api.ErrShort},
		{"ff ff ff ff ff ff ff ff 7f", math.MaxInt - 1, nil, api.ErrLong},

		// A part's length, and its bytes.
		{"01", 5, nil, api.ErrShort},
		{"01 01", 5, nil, api.ErrShort},
		{"01 fd", 5, nil, api.ErrShort},
		{"01 fd 01", 5, nil, api.ErrShort},
		{"01 fd 01 00 05", 5, nil, api.ErrForm},
		{"01 fe 01 00 00 00 05", 5, nil, api.ErrForm},
		{"01 03 01 02", 5, nil, api.ErrShort},
		{"01 ff ff ff ff ff ff ff ff ff", 5, nil, api.ErrShort},
		{"01 ff 00 00 00 00 00 00 00 80 01", 5, nil, api.ErrShort},
		{"02 01 05", 5, nil, api.ErrShort},
		{"02 01 05 02 06", 5, nil, api.ErrShort},
		{"02 01 05 fd 00 00", 5, nil, api.ErrForm},

		// What stands behind.
		{"00 00", 5, nil, api.ErrLong},
		{"01 00 00", 5, nil, api.ErrLong},
		{"01 01 05 06", 5, nil, api.ErrLong},
		{"02 02 61 62 00 fd", 5, nil, api.ErrLong},
		{"02 02 61 fd 00 00", 5, nil, api.ErrLong},

		// The first error, as the bytes are read.
		{"02 fd 01 00 05", 1, nil, api.ErrLong},
		{"fd 02 00", 1, nil, api.ErrForm},
		{"fd", -1, nil, api.ErrShort},
		{"02 fd 01 00 05 09", 5, nil, api.ErrForm},
		{"02 05 fd 01 00", 5, nil, api.ErrShort},
	} {
		l, e := Unpack(raw(x.b), x.most)
		if e != x.e || !same(l, x.l) {
			t.Errorf("Unpack(%s, %d): %x %d", x.b, x.most, l, e)
		}
	}
}

// P2.4
func TestPutIsGot(t *testing.T) {
	for _, x := range edges() {
		for _, n := range []int{1, 2, 4, 8} {
			b, e := Put(x, n)
			if e != api.OK {
				continue
			}
			if y, e := Get(b); y != x || e != api.OK {
				t.Errorf("Get(Put(%d, %d)): %d %d", x, n, y, e)
			}
		}
		b := Var(x)
		if y, n, e := Read(b); y != x || n != len(b) || e != api.OK {
			t.Errorf("Read(Var(%d)): %d %d %d", x, y, n, e)
		}
	}
}

// P2.4: every row of up to five bytes, each out of a few, is the Pack of what it is unpacked to, or is refused.
func TestPackedIsUnpacked(t *testing.T) {
	letters := []byte{0, 1, 2, 3, 252, 253}
	rows := [][]byte{{}}
	for i := 0; i < len(rows); i++ {
		b := rows[i]
		if len(b) < 5 {
			for _, c := range letters {
				rows = append(rows, append(bytes.Clone(b), c))
			}
		}
		l, e := Unpack(b, 9)
		if e == api.OK && !bytes.Equal(Pack(l...), b) || e != api.OK && len(l) != 0 {
			t.Errorf("Unpack(%x): %x %d", b, l, e)
		}
		if back, e := Unpack(Pack(b, nil, b), 3); e != api.OK || !same(back, [][]byte{b, nil, b}) {
			t.Errorf("Unpack(Pack) of %x: %x %d", b, back, e)
		}
	}
}

// Rules 4: what is handed in stays as it is, and isn't kept.
func TestArguments(t *testing.T) {
	one, two := raw("61 62"), raw("fd fd 00 09")
	w1, w2 := roomy(one), roomy(two)
	room := [][]byte{w1, w2, one, one}
	b := Pack(room[:2]...)
	if !untouched(w1, one) || !untouched(w2, two) || !same(room, [][]byte{one, two, one, one}) {
		t.Error("Pack changes its parts")
	}
	want := bytes.Clone(b)
	w1[0], w2[0] = 0, 0
	if !bytes.Equal(b, want) {
		t.Error("a Pack shares its parts' bytes")
	}

	for _, text := range []string{"02 02 61 62 01 05", "01 01", "01 00 00", "fd 01 00", "08", "fd fd 00", "02 01"} {
		was := raw(text)
		w := roomy(was)
		Unpack(w, 9)
		Read(w)
		Get(w)
		if !untouched(w, was) {
			t.Errorf("%s is changed", text)
		}
	}
}

// Rules 4: no part shares its bytes, or its spare room, with what was unpacked or with another part.
func TestPartsAreNew(t *testing.T) {
	packed := raw("04 02 61 62 00 01 63 00")
	was := bytes.Clone(packed)
	l, e := Unpack(packed, 4)
	if e != api.OK || len(l) != 4 {
		t.Fatal(l, e)
	}
	for i, part := range l {
		rest := part[len(part):cap(part)]
		for k := range rest {
			rest[k] = byte(0x10 + i)
		}
	}
	if !bytes.Equal(packed, was) {
		t.Error("a part's spare room is that of the packed bytes")
	}
	for i := range packed {
		packed[i] = 0xee
	}
	if !same(l, [][]byte{[]byte("ab"), nil, []byte("c"), nil}) {
		t.Errorf("parts share memory: %x", l)
	}
}
