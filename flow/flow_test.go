package flow

import (
	"bytes"
	"crypto/sha256"
	"encoding/binary"
	"fmt"
	"math"
	"math/rand"
	"regexp"
	"slices"
	"strings"
	"testing"

	"pappus/api"
	"pappus/frame"
)

// some are n bytes of all kinds, others for another seed.
func some(n int, seed int64) []byte {
	b := make([]byte, n)
	rand.New(rand.NewSource(seed)).Read(b)
	return b
}

// check is a body's Check, by the library.
func check(body []byte) uint32 {
	once := sha256.Sum256(body)
	twice := sha256.Sum256(once[:])
	return binary.LittleEndian.Uint32(twice[:])
}

// head are 24 bytes that tell so, by the library; the name may be any bytes, at most twelve.
func head(name string, size, sum uint32) []byte {
	if len(name) > 12 {
		panic(name)
	}
	b := []byte("\xc4\xf0\x7a\x1e" + name + strings.Repeat("\x00", 12-len(name)))
	b = binary.LittleEndian.AppendUint32(b, size)
	return binary.LittleEndian.AppendUint32(b, sum)
}

// wire is a frame, by the library; with a wrong name, if that is one.
func wire(name string, body []byte) []byte {
	return append(head(name, uint32(len(body)), check(body)), body...)
}

// unsummed is a frame with a wrong Check.
func unsummed(name string, body []byte) []byte {
	return append(head(name, uint32(len(body)), check(body)+1), body...)
}

// row is all pieces, one behind the other.
func row(l ...[]byte) []byte {
	return slices.Concat(l...)
}

// item is an api.Item, to be held against others.
type item struct {
	cmd  string
	body string
	err  api.Errno
}

// String shows a body's beginning alone, by hex digits.
func (x item) String() string {
	return fmt.Sprintf("%q with %d bytes %.16x, error %d", x.cmd, len(x.body), x.body, x.err)
}

// right is what is told of a frame that is.
func right(cmd string, body []byte) item {
	return item{cmd: cmd, body: string(body)}
}

// spoilt is what is told of one that isn't.
func spoilt(e api.Errno) item {
	return item{err: e}
}

// plain are items, to be held against others.
func plain(l []api.Item) []item {
	var out []item
	for _, x := range l {
		out = append(out, item{x.Cmd, string(x.Body), x.Err})
	}
	return out
}

// feed is what a flow tells of b.
func feed(f *Flow, b []byte) []item {
	return plain(f.Feed(b))
}

// stands says, as an error, whether a flow isn't as it should be.
func stands(f *Flow, waits int, dead bool) error {
	if f.Waits() != waits || f.Dead() != dead {
		return fmt.Errorf("waits %d, dead %v; not %d, %v", f.Waits(), f.Dead(), waits, dead)
	}
	return nil
}

// named is a head's twelve bytes, if they have a name.
var named = regexp.MustCompile(`\A[a-z]{1,12}\x00*\z`)

// model is what a whole row of bytes, however it comes, has told in the end, by the library; and what waits, and whether that was all for ever.
func model(b []byte) (l []item, waits int, dead bool) {
	for {
		if len(b) < 24 {
			return l, len(b), false
		}
		if string(b[:4]) != "\xc4\xf0\x7a\x1e" {
			return append(l, spoilt(api.ErrForm)), 0, true
		}
		size := binary.LittleEndian.Uint32(b[16:])
		if size > 2048 {
			return append(l, spoilt(api.ErrLong)), 0, true
		}
		n := 24 + int(size)
		if len(b) < n {
			return l, len(b), false
		}
		switch body := b[24:n]; {
		case !named.Match(b[4:16]):
			l = append(l, spoilt(api.ErrName))
		case check(body) != binary.LittleEndian.Uint32(b[20:]):
			l = append(l, spoilt(api.ErrSum))
		default:
			l = append(l, right(strings.Trim(string(b[4:16]), "\x00"), body))
		}
		b = b[n:]
	}
}

// pieces feeds b to a new flow in pieces of the sizes that next says, and holds it against the model behind each.
func pieces(t *testing.T, b []byte, next func() int) {
	t.Helper()
	f := New()
	var l []item
	for at := 0; at < len(b); {
		to := min(at+next(), len(b))
		l = append(l, feed(f, b[at:to])...)
		want, waits, dead := model(b[:to])
		if err := stands(f, waits, dead); err != nil || !slices.Equal(l, want) {
			t.Fatalf("bytes %d to %d of %d: %v, not %v; %v", at, to, len(b), l, want, err)
		}
		if f.Waits() >= 24+api.MaxBody {
			t.Fatal("too many wait:", f.Waits())
		}
		at = to
	}
}

// steps are pieces of one size.
func steps(n int) func() int {
	return func() int { return n }
}

// strewn are pieces of any sizes below most, of none too.
func strewn(r *rand.Rand, most int) func() int {
	return func() int { return r.Intn(most) }
}

// rows are rows of bytes of all kinds: right frames, spoilt ones among them, and what begins no frame, ahead of them and behind.
func rows() map[string][]byte {
	ping, long, empty := wire("ping", some(8, 1)), wire("tx", some(2048, 2)), wire("verack", nil)
	noise := some(60, 3)
	return map[string][]byte{
		"one":               ping,
		"empty":             empty,
		"long":              long,
		"empty ones":        row(empty, empty, empty),
		"right":             row(ping, empty, long, ping, wire("abcdefghijkl", some(1, 4)), empty),
		"long ones":         row(long, long, long),
		"a wrong name":      row(ping, wire("Ping", some(9, 5)), empty, ping),
		"no name":           row(wire("", nil), empty, wire("", some(2048, 6)), ping),
		"a name within 0":   row(long, wire("a\x00b", some(30, 7)), long),
		"a wrong Check":     row(ping, unsummed("ping", some(8, 8)), ping),
		"wrong Checks":      row(unsummed("tx", nil), unsummed("tx", some(2048, 9)), unsummed("tx", some(2047, 9)), empty),
		"both wrong":        row(unsummed("TX", some(77, 10)), ping),
		"spoilt alone":      row(wire("1", some(3, 11)), unsummed("tx", some(4, 12))),
		"noughts":           make([]byte, 100),
		"noise":             noise,
		"noise ahead":       row(noise, ping, empty),
		"noise behind":      row(ping, unsummed("tx", some(5, 13)), noise, long),
		"too long":          row(head("tx", 2049, 7), some(2049, 14), ping),
		"too long behind":   row(long, empty, head("tx", math.MaxUint32, 7), ping),
		"too long, no name": row(ping, head("", 2049, 7), ping),
		"frame in a frame":  row(wire("tx", ping), unsummed("tx", row(empty, ping)), wire("T", row(ping, empty)), ping),
		"one byte too many": row(ping, []byte{0xc4}, ping, long),
		"one byte too few":  row(ping[:len(ping)-1], ping, long),
		"a magic turned":    row(empty, []byte("\xc4\xf0\x7a\x1f"), empty[4:], ping),
	}
}

// spoil overwrites a list, its spare room too.
func spoil(b []byte) {
	b = b[:cap(b)]
	for i := range b {
		b[i] ^= 0xff
	}
}

// roomy is a copy of b with spare room that is filled.
func roomy(b []byte) []byte {
	w := bytes.Repeat([]byte{0xaa}, len(b)+64)
	copy(w, b)
	return w[:len(b)]
}

// untouched says whether w, of roomy(b), and its spare room are as they were.
func untouched(w, b []byte) bool {
	all := w[:len(b)+64]
	return bytes.Equal(all[:len(b)], b) && bytes.Equal(all[len(b):], bytes.Repeat([]byte{0xaa}, 64))
}

// P6.1
func TestNew(t *testing.T) {
	f := New()
	if f == nil {
		t.Fatal("none")
	}
	if err := stands(f, 0, false); err != nil {
		t.Error(err)
	}
	if l := feed(f, wire("verack", nil)); !slices.Equal(l, []item{right("verack", nil)}) {
		t.Error(l)
	}
	var zero Flow
	if l := feed(&zero, wire("tx", []byte("x"))); !slices.Equal(l, []item{right("tx", []byte("x"))}) {
		t.Error(l)
	}
}

// P6.1: of a nil Flow nothing, 0, true.
func TestNil(t *testing.T) {
	var f *Flow
	for _, b := range [][]byte{nil, {}, {0}, make([]byte, 24), wire("ping", some(8, 1)), head("tx", 2049, 0)} {
		if l := f.Feed(b); len(l) != 0 {
			t.Error(l)
		}
		if err := stands(f, 0, true); err != nil {
			t.Error(err)
		}
	}
}

// P6.1: the chapter's examples.
func TestExamples(t *testing.T) {
	b := wire("ping", some(8, 1))
	f := New()
	l := feed(f, b[:10])
	if err := stands(f, 10, false); err != nil || len(l) != 0 {
		t.Error(l, err)
	}
	l = feed(f, b[10:])
	if err := stands(f, 0, false); err != nil || !slices.Equal(l, []item{right("ping", some(8, 1))}) {
		t.Error(l, err)
	}
	g := New()
	l = feed(g, make([]byte, 24))
	if err := stands(g, 0, true); err != nil || !slices.Equal(l, []item{spoilt(api.ErrForm)}) {
		t.Error(l, err)
	}
}

// P6.1: what layer 5 puts is told, of every size of a body.
func TestPut(t *testing.T) {
	f := New()
	for _, n := range []int{0, 1, 2, 8, 23, 24, 25, 63, 64, 65, 255, 256, 257, 1000, 2024, 2047, 2048} {
		b, e := frame.Put("stemtx", some(n, int64(n)))
		if e != api.OK {
			t.Fatal(n, e)
		}
		l := feed(f, b)
		if err := stands(f, 0, false); err != nil || !slices.Equal(l, []item{right("stemtx", some(n, int64(n)))}) {
			t.Error(n, l, err)
		}
	}
}

// P6.1: no bytes bring nothing about, wherever they come.
func TestNothing(t *testing.T) {
	b := row(wire("ping", some(8, 1)), wire("verack", nil), make([]byte, 24))
	f := New()
	for i := range len(b) + 1 {
		for _, none := range [][]byte{nil, {}, b[i:i]} {
			waits, dead := f.Waits(), f.Dead()
			l := feed(f, none)
			if err := stands(f, waits, dead); err != nil || len(l) != 0 {
				t.Fatal(i, l, err)
			}
		}
		if i < len(b) {
			want, _, _ := model(b[:i+1])
			before, _, _ := model(b[:i])
			if l := feed(f, b[i:i+1]); !slices.Equal(l, want[len(before):]) {
				t.Fatal(i, l)
			}
		}
	}
	if !f.Dead() {
		t.Error("lives")
	}
}

// P6.1: byte by byte a frame is told with its last byte; what waits is counted at each.
func TestBytewise(t *testing.T) {
	for _, n := range []int{0, 1, 8, 2047, 2048} {
		body := some(n, 1)
		b := wire("ping", body)
		f := New()
		for range 2 {
			for i := range len(b) - 1 {
				l := feed(f, b[i:i+1])
				if err := stands(f, i+1, false); err != nil || len(l) != 0 {
					t.Fatal(n, i, l, err)
				}
			}
			l := feed(f, b[len(b)-1:])
			if err := stands(f, 0, false); err != nil || !slices.Equal(l, []item{right("ping", body)}) {
				t.Fatal(n, l, err)
			}
		}
	}
}

// P6.1, P6.2: as many bytes wait as ever may: one fewer than the longest frame has.
func TestMostWaits(t *testing.T) {
	b := wire("tx", some(2048, 1))
	f := New()
	l := feed(f, row(wire("verack", nil), b[:2071]))
	if err := stands(f, 24+api.MaxBody-1, false); err != nil || !slices.Equal(l, []item{right("verack", nil)}) {
		t.Error(l, err)
	}
	l = feed(f, row(b[2071:], b[:2071]))
	if err := stands(f, 2071, false); err != nil || !slices.Equal(l, []item{right("tx", some(2048, 1))}) {
		t.Error(l, err)
	}
}

// P6.1: a head that ends with its piece: a body of no bytes is there then, one that is too long is known, any other one waits.
func TestHeadEnds(t *testing.T) {
	for i, x := range []struct {
		head  []byte
		want  []item
		waits int
		dead  bool
	}{
		{wire("tx", nil), []item{right("tx", nil)}, 0, false},
		{wire("", nil), []item{spoilt(api.ErrName)}, 0, false},
		{unsummed("tx", nil), []item{spoilt(api.ErrSum)}, 0, false},
		{head("", 0, 7), []item{spoilt(api.ErrName)}, 0, false},
		{head("tx", 1, 7), nil, 24, false},
		{head("", 1, 7), nil, 24, false},
		{head("tx", 2048, 7), nil, 24, false},
		{head("T", 2048, 7), nil, 24, false},
		{head("tx", 2049, 7), []item{spoilt(api.ErrLong)}, 0, true},
		{head("", 2049, 7), []item{spoilt(api.ErrLong)}, 0, true},
		{head("tx", 1<<16, 7), []item{spoilt(api.ErrLong)}, 0, true},
		{head("tx", 1<<31, 7), []item{spoilt(api.ErrLong)}, 0, true},
		{head("tx", math.MaxUint32, 7), []item{spoilt(api.ErrLong)}, 0, true},
		{make([]byte, 24), []item{spoilt(api.ErrForm)}, 0, true},
		{some(24, 1), []item{spoilt(api.ErrForm)}, 0, true},
		{append([]byte{0}, head("tx", 0, 7)[1:]...), []item{spoilt(api.ErrForm)}, 0, true},
		{append([]byte{0}, head("", math.MaxUint32, 7)[1:]...), []item{spoilt(api.ErrForm)}, 0, true},
	} {
		for cut := range 24 {
			f := New()
			l := feed(f, x.head[:cut])
			if err := stands(f, cut, false); err != nil || len(l) != 0 {
				t.Error(i, cut, l, err)
			}
			l = feed(f, x.head[cut:])
			if err := stands(f, x.waits, x.dead); err != nil || !slices.Equal(l, x.want) {
				t.Error(i, cut, l, err)
			}
		}
	}
}

// P6.1: whichever bit of the magic is turned, it is told with the head's last byte, not ahead of it, and is the end.
func TestMagic(t *testing.T) {
	for i := range 32 {
		b := wire("ping", some(8, 1))
		b[i/8] ^= 1 << (i % 8)
		f := New()
		l := feed(f, b[:23])
		if err := stands(f, 23, false); err != nil || len(l) != 0 {
			t.Error(i, l, err)
		}
		l = feed(f, b[23:])
		if err := stands(f, 0, true); err != nil || !slices.Equal(l, []item{spoilt(api.ErrForm)}) {
			t.Error(i, l, err)
		}
	}
}

// P6.1: two frames, in every two pieces: heads and bodies cut off anywhere, an end with the next one's beginning.
func TestCut(t *testing.T) {
	for _, n := range []int{0, 1, 50} {
		for _, m := range []int{0, 1, 60} {
			b := row(wire("inv", some(n, 1)), wire("getdata", some(m, 2)))
			for cut := range len(b) + 1 {
				f := New()
				l := append(feed(f, b[:cut]), feed(f, b[cut:])...)
				if err := stands(f, 0, false); err != nil || !slices.Equal(l, []item{right("inv", some(n, 1)), right("getdata", some(m, 2))}) {
					t.Error(n, m, cut, l, err)
				}
			}
		}
	}
}

// P6.1: many frames in one piece are told in their order, spoilt ones where they stand.
func TestMany(t *testing.T) {
	var b []byte
	var want []item
	for i := range 500 {
		body := some(i%90, int64(i))
		switch i % 5 {
		case 3:
			b = append(b, wire("no name", body)...)
			want = append(want, spoilt(api.ErrName))
		case 4:
			b = append(b, unsummed("tx", body)...)
			want = append(want, spoilt(api.ErrSum))
		default:
			name := strings.Repeat("t", 1+i%12)
			b = append(b, wire(name, body)...)
			want = append(want, right(name, body))
		}
	}
	f := New()
	l := feed(f, b)
	if err := stands(f, 0, false); err != nil || !slices.Equal(l, want) {
		t.Error(len(l), err)
	}
}

// P6.1: a dead flow tells nothing, keeps nothing, and stays dead.
func TestDead(t *testing.T) {
	ping := wire("ping", some(8, 1))
	for i, x := range []struct {
		b []byte
		e api.Errno
	}{
		{make([]byte, 24), api.ErrForm},
		{some(3000, 1), api.ErrForm},
		{head("tx", 2049, 0), api.ErrLong},
		{row(head("tx", 2049, 0), ping, make([]byte, 24), head("tx", 2049, 0)), api.ErrLong},
		{row(make([]byte, 24), ping, make([]byte, 24), wire("", nil)), api.ErrForm},
	} {
		f := New()
		l := feed(f, row(ping, x.b))
		if !slices.Equal(l, []item{right("ping", some(8, 1)), spoilt(x.e)}) {
			t.Error(i, l)
		}
		for _, b := range [][]byte{nil, {0}, ping, wire("", nil), unsummed("tx", nil), make([]byte, 24), head("tx", 2049, 0), ping[:10], ping[10:], some(5000, 2)} {
			l := feed(f, b)
			if err := stands(f, 0, true); err != nil || len(l) != 0 {
				t.Error(i, l, err)
			}
		}
	}
}

// P6.1: a wrong name is told once the frame is whole, not with its head.
func TestLateName(t *testing.T) {
	b := unsummed("Tx", some(40, 1))
	f := New()
	for i := range len(b) - 1 {
		l := feed(f, b[i:i+1])
		if err := stands(f, i+1, false); err != nil || len(l) != 0 {
			t.Fatal(i, l, err)
		}
	}
	l := feed(f, b[63:])
	if err := stands(f, 0, false); err != nil || !slices.Equal(l, []item{spoilt(api.ErrName)}) {
		t.Error(l, err)
	}
}

// P6.2: in pieces of one size, whatever that is.
func TestSteps(t *testing.T) {
	for name, b := range rows() {
		t.Run(name, func(t *testing.T) {
			for _, n := range []int{1, 2, 3, 7, 11, 12, 23, 24, 25, 31, 32, 33, 47, 48, 49, 100, 1000, 2047, 2048, 2049, 2071, 2072, 2073, 4000, 10000} {
				pieces(t, b, steps(n))
			}
		})
	}
}

// P6.2: in any two pieces.
func TestTwoPieces(t *testing.T) {
	for name, b := range rows() {
		want, waits, dead := model(b)
		for cut := range len(b) + 1 {
			f := New()
			l := append(feed(f, b[:cut]), feed(f, b[cut:])...)
			if err := stands(f, waits, dead); err != nil || !slices.Equal(l, want) {
				t.Fatal(name, cut, l, err)
			}
		}
	}
}

// P6.2: in any pieces.
func TestStrewn(t *testing.T) {
	r := rand.New(rand.NewSource(1))
	for _, b := range rows() {
		for range 5 {
			for _, most := range []int{2, 5, 30, 200, 3000} {
				pieces(t, b, strewn(r, most))
			}
		}
	}
}

// P6.2: rows of any frames, right ones and spoilt ones, with bits turned anywhere, in any pieces.
func TestAny(t *testing.T) {
	r := rand.New(rand.NewSource(2))
	for range 400 {
		var b []byte
		for range 1 + r.Intn(8) {
			name := []string{"tx", "inv", "abcdefghijkl", "", "X"}[r.Intn(5)]
			body := some([]int{0, 1, r.Intn(100), 2048}[r.Intn(4)], r.Int63())
			b = append(b, wire(name, body)...)
		}
		for range r.Intn(4) {
			b[r.Intn(len(b))] ^= 1 << r.Intn(8)
		}
		pieces(t, b, strewn(r, 1+r.Intn(1500)+1))
	}
}

// P6.2: whichever bit of a frame's name, Check or body is turned, the frames beside it are told.
func TestNoHarm(t *testing.T) {
	ahead, behind := wire("ping", some(8, 1)), wire("pong", some(9, 2))
	b := row(ahead, wire("stemtx", some(30, 3)), behind)
	for i := range 54 {
		// The magic and the length say where frames begin.
		if i < 4 || i >= 16 && i < 20 {
			continue
		}
		for bit := range 8 {
			w := bytes.Clone(b)
			w[len(ahead)+i] ^= 1 << bit
			want, _, _ := model(w)
			// Another letter in the name still is a name.
			found := i < 16 || want[1].err == api.ErrSum
			f := New()
			l := feed(f, w)
			if err := stands(f, 0, false); err != nil || !found || !slices.Equal(l, want) || l[0] != right("ping", some(8, 1)) || l[2] != right("pong", some(9, 2)) {
				t.Errorf("byte %d, bit %d: %v %v", i, bit, l, err)
			}
		}
	}
}

// What is fed is neither changed, its spare room included, nor kept.
func TestFedAlone(t *testing.T) {
	for name, b := range rows() {
		for _, n := range []int{1, 10, 24, 30, 500, 2060, 9000} {
			f := New()
			var l []api.Item
			for at := 0; at < len(b); at += n {
				piece := b[at:min(at+n, len(b))]
				w := roomy(piece)
				l = append(l, f.Feed(w)...)
				if !untouched(w, piece) {
					t.Error(name, n, "changed")
				}
				spoil(w)
			}
			want, waits, dead := model(b)
			if err := stands(f, waits, dead); err != nil || !slices.Equal(plain(l), want) {
				t.Error(name, n, "kept", err)
			}
		}
	}
}

// An answer is new memory: it shares none with what is fed, with another answer, with another body of it, or with the flow.
func TestNewMemory(t *testing.T) {
	for _, n := range []int{0, 1, 8, 100, 2048} {
		first, second, third := some(n, 1), some(n, 2), some(n, 3)
		b := row(wire("a", first), wire("b", second), wire("c", third))
		want := []item{right("a", first), right("b", second), right("c", third)}
		for cut := 1; cut < len(b); cut += 1 + len(b)/200 {
			w := roomy(b)
			f := New()
			l := f.Feed(w[:cut])
			early := plain(l)
			for i := range l {
				spoil(l[i].Body)
				if others := plain(l)[i+1:]; !slices.Equal(others, early[i+1:]) {
					t.Fatal(n, cut, "bodies share")
				}
			}
			clear(l[:cap(l)])
			late := f.Feed(w[cut:])
			if !untouched(w, b) {
				t.Fatal(n, cut, "what is fed is shared")
			}
			if all := append(early, plain(late)...); !slices.Equal(all, want) {
				t.Fatal(n, cut, all)
			}
			told := plain(late)
			spoil(w)
			f.Feed(row(wire("d", some(n, 4)), wire("e", some(50, 5))[:60]))
			if !slices.Equal(plain(late), told) {
				t.Fatal(n, cut, "the flow shares")
			}
		}
	}
}

// Flows don't hang on one another, dead ones neither.
func TestApart(t *testing.T) {
	a, b, c := New(), New(), New()
	x, y := wire("ping", some(100, 1)), wire("pong", some(70, 2))
	c.Feed(make([]byte, 24))
	var la, lb []item
	for i := range len(x) {
		la = append(la, feed(a, x[i:i+1])...)
		if i < len(y) {
			lb = append(lb, feed(b, y[i:i+1])...)
		}
		if l := feed(c, x[i:i+1]); len(l) != 0 || !c.Dead() || a.Dead() || b.Dead() {
			t.Fatal(i, l)
		}
	}
	if !slices.Equal(la, []item{right("ping", some(100, 1))}) || !slices.Equal(lb, []item{right("pong", some(70, 2))}) {
		t.Error(la, lb)
	}
}

// Waits and Dead only look.
func TestLook(t *testing.T) {
	b := row(wire("ping", some(30, 1)), wire("pong", some(2, 2)))
	f := New()
	l := feed(f, b[:40])
	for range 3 {
		if err := stands(f, 40, false); err != nil || len(l) != 0 {
			t.Error(l, err)
		}
	}
	if l := feed(f, b[40:]); !slices.Equal(l, []item{right("ping", some(30, 1)), right("pong", some(2, 2))}) {
		t.Error(l)
	}
}

// Nothing is kept of what was told, and nothing at all of what ended a flow.
func TestKeepsNothing(t *testing.T) {
	f := New()
	f.Feed(wire("tx", some(2048, 1)))
	if f.head != [24]byte{} || f.body != nil {
		t.Error("a frame is kept")
	}
	f.Feed(wire("Tx", some(2048, 1)))
	if f.head != [24]byte{} || f.body != nil {
		t.Error("a spoilt frame is kept")
	}
	f.Feed(some(3000, 1))
	if f.head != [24]byte{} || f.body != nil {
		t.Error("what ended it is kept")
	}
}
