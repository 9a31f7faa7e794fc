package calc

import (
	"math/big"
	"slices"
	"testing"

	"pappus/api"
)

// edges are numbers at which halves, thousands and the greatest number turn.
func edges() []uint64 {
	return []uint64{
		0, 1, 2, 3, 7, 99, 100, 101, 250, 251, 999, 1000, 1001, 1999, 2000,
		1<<31 - 1, 1 << 31, 1<<32 - 1, 1 << 32, 1<<32 + 1, 1 << 50, 1<<53 + 1,
		greatest / 1000, greatest/1000 + 1, 1<<63 - 1, 1 << 63, 1<<63 + 1,
		greatest - 1000, greatest - 999, greatest - 998, greatest - 1, greatest,
	}
}

func whole(x uint64) *big.Int { return new(big.Int).SetUint64(x) }

func product(a, b uint64) *big.Int { return new(big.Int).Mul(whole(a), whole(b)) }

func total(l ...uint64) *big.Int {
	s := new(big.Int)
	for _, x := range l {
		s.Add(s, whole(x))
	}
	return s
}

// fitting is what a call answers whose result is w, if only the greatest number bounds it.
func fitting(w *big.Int) (uint64, api.Errno) {
	if !w.IsUint64() {
		return 0, api.ErrRange
	}
	return w.Uint64(), api.OK
}

func TestGreatest(t *testing.T) {
	if greatest != 18446744073709551615 {
		t.Error(greatest)
	}
}

// P1.1
func TestLater(t *testing.T) {
	for _, x := range []struct {
		t    uint64
		d    []uint64
		want uint64
	}{
		{5, []uint64{3, 2}, 10},
		{0, nil, 0},
		{9, nil, 9},
		{9, []uint64{}, 9},
		{9, []uint64{0, 0}, 9},
		{0, []uint64{greatest}, greatest},
		{greatest, nil, greatest},
		{greatest, []uint64{0}, greatest},
		{greatest, []uint64{7}, greatest},
		{greatest - 7, []uint64{3, 3}, greatest - 1},
		{greatest - 7, []uint64{3, 4}, greatest},
		{greatest - 7, []uint64{3, 5}, greatest},
		{greatest, []uint64{1, greatest, 1}, greatest},
		{1 << 63, []uint64{1 << 63, 5}, greatest},
		{1, []uint64{greatest, 1, 2, 3}, greatest},
	} {
		if got := Later(x.t, x.d...); got != x.want {
			t.Errorf("Later(%d, %v): %d, not %d", x.t, x.d, got, x.want)
		}
	}
}

// P1.1
func TestSum(t *testing.T) {
	for _, x := range []struct {
		l    []uint64
		want uint64
		e    api.Errno
	}{
		{nil, 0, api.OK},
		{[]uint64{}, 0, api.OK},
		{[]uint64{0}, 0, api.OK},
		{[]uint64{4}, 4, api.OK},
		{[]uint64{1, 2, 3, 4}, 10, api.OK},
		{[]uint64{greatest}, greatest, api.OK},
		{[]uint64{greatest, 0}, greatest, api.OK},
		{[]uint64{greatest - 1, 1}, greatest, api.OK},
		{[]uint64{greatest, 1}, 0, api.ErrRange},
		{[]uint64{1, greatest}, 0, api.ErrRange},
		{[]uint64{greatest, greatest}, 0, api.ErrRange},
		{[]uint64{greatest, 1, 5}, 0, api.ErrRange},
		{[]uint64{1 << 63, 1 << 63}, 0, api.ErrRange},
		{[]uint64{1 << 63, 1 << 63, 1 << 63, 1 << 63}, 0, api.ErrRange},
	} {
		if got, e := Sum(x.l...); got != x.want || e != x.e {
			t.Errorf("Sum(%v): %d, %d, not %d, %d", x.l, got, e, x.want, x.e)
		}
	}
}

// P1.1
func TestSumsAreWhole(t *testing.T) {
	for _, a := range edges() {
		for _, b := range edges() {
			for _, c := range edges() {
				want, e := fitting(total(a, b, c))
				if got, f := Sum(a, b, c); got != want || f != e {
					t.Errorf("Sum(%d, %d, %d): %d, %d, not %d, %d", a, b, c, got, f, want, e)
				}
				if e != api.OK {
					want = greatest
				}
				if got := Later(a, b, c); got != want {
					t.Errorf("Later(%d, %d, %d): %d, not %d", a, b, c, got, want)
				}
			}
		}
	}
}

// Rule 4: what is handed in isn't changed, nor is its spare room.
func TestListsStayAsTheyAre(t *testing.T) {
	for _, all := range [][]uint64{{1, 2, 3, 4}, {greatest, greatest, 5, 6}} {
		was := slices.Clone(all)
		Later(7, all[:2]...)
		Sum(all[:2]...)
		if !slices.Equal(all, was) {
			t.Errorf("%v, not %v", all, was)
		}
	}
}

// P1.2
func TestCmp(t *testing.T) {
	for _, x := range []struct {
		a, b, c, d uint64
		want       int
	}{
		{3, 4, 2, 6, 0},
		{3, 4, 2, 5, 1},
		{3, 4, 2, 7, -1},
		{0, 0, 0, 0, 0},
		{0, greatest, greatest, 0, 0},
		{0, greatest, 1, 1, -1},
		{1, 1, greatest, 0, 1},
		{1 << 32, 1 << 32, 0, 0, 1},
		{1 << 63, 2, 1 << 32, 1 << 32, 0},
		{1 << 32, 1 << 32, greatest, 1, 1},
		{greatest, greatest, greatest, greatest, 0},
		{greatest, greatest, greatest, greatest - 1, 1},
		{greatest - 1, greatest, greatest, greatest, -1},
		{greatest, greatest - 2, greatest - 1, greatest - 1, -1},
		{1 << 33, 1 << 33, greatest, 4, 1},
		{greatest, 4, 1 << 33, 1 << 33, -1},
		{1 << 63, 3, 1 << 62, 5, 1},
	} {
		if got := Cmp(x.a, x.b, x.c, x.d); got != x.want {
			t.Errorf("Cmp(%d, %d, %d, %d): %d, not %d", x.a, x.b, x.c, x.d, got, x.want)
		}
	}
}

// P1.2, P1.4
func TestCmpIsOfWholeProducts(t *testing.T) {
	l := edges()
	for _, a := range l {
		for _, b := range l {
			left := product(a, b)
			for _, c := range l {
				for _, d := range l {
					if got, want := Cmp(a, b, c, d), left.Cmp(product(c, d)); got != want {
						t.Fatalf("Cmp(%d, %d, %d, %d): %d, not %d", a, b, c, d, got, want)
					}
				}
			}
		}
	}
}

// P1.3
func TestPart(t *testing.T) {
	for _, x := range []struct {
		x, num, den, want uint64
		e                 api.Errno
	}{
		{1 << 63, 6, 4, 13835058055282163712, api.OK},
		{7, 3, 2, 10, api.OK},
		{6, 3, 2, 9, api.OK},
		{1, 1, 2, 0, api.OK},
		{0, 5, 7, 0, api.OK},
		{5, 0, 7, 0, api.OK},
		{1, 1, greatest, 0, api.OK},
		{greatest, 1, 1, greatest, api.OK},
		{greatest, greatest, greatest, greatest, api.OK},
		{greatest, greatest, greatest - 1, 0, api.ErrRange},
		{greatest, 2, 1, 0, api.ErrRange},
		{1 << 63, 2, 1, 0, api.ErrRange},
		{1 << 63, 3, 2, 3 << 62, api.OK},
		{1 << 32, 1 << 33, 2, 0, api.ErrRange},
		{1 << 32, 1 << 33, 3, 12297829382473034410, api.OK},
		{0, 0, 0, 0, api.ErrArg},
		{1, 1, 0, 0, api.ErrArg},
		{greatest, 0, 0, 0, api.ErrArg},
		{greatest, greatest, 0, 0, api.ErrArg},
	} {
		if got, e := Part(x.x, x.num, x.den); got != x.want || e != x.e {
			t.Errorf("Part(%d, %d, %d): %d, %d, not %d, %d", x.x, x.num, x.den, got, e, x.want, x.e)
		}
	}
}

// P1.3, P1.4
func TestPartIsOfWholeProducts(t *testing.T) {
	for _, a := range edges() {
		for _, b := range edges() {
			for _, den := range edges()[1:] {
				want, e := fitting(new(big.Int).Div(product(a, b), whole(den)))
				if got, f := Part(a, b, den); got != want || f != e {
					t.Errorf("Part(%d, %d, %d): %d, %d, not %d, %d", a, b, den, got, f, want, e)
				}
			}
		}
	}
}

// P1.3
func TestNeed(t *testing.T) {
	for _, x := range []struct {
		size, rate, want uint64
		e                api.Errno
	}{
		{250, 100, 25, api.OK},
		{251, 100, 26, api.OK},
		{259, 100, 26, api.OK},
		{260, 100, 26, api.OK},
		{0, 0, 0, api.OK},
		{0, greatest, 0, api.OK},
		{greatest, 0, 0, api.OK},
		{1, 1, 1, api.OK},
		{1, 999, 1, api.OK},
		{1, 1000, 1, api.OK},
		{1, 1001, 2, api.OK},
		{greatest, 1, 18446744073709552, api.OK},
		{greatest, 999, 18428297329635842064, api.OK},
		{greatest, 1000, greatest, api.OK},
		{1000, greatest, greatest, api.OK},
		{greatest, 1001, 0, api.ErrRange},
		{1 << 63, 2000, 0, api.ErrRange},
		{1<<63 - 1, 2000, greatest - 1, api.OK},
		{1 << 63, 2001, 0, api.ErrRange},
		{greatest, greatest, 0, api.ErrRange},
	} {
		if got, e := Need(x.size, x.rate); got != x.want || e != x.e {
			t.Errorf("Need(%d, %d): %d, %d, not %d, %d", x.size, x.rate, got, e, x.want, x.e)
		}
	}
}

// P1.3: only rounded up is it more than the greatest number.
func TestNeedRoundsBeyondTheGreatest(t *testing.T) {
	most := new(big.Int).Mul(whole(greatest), whole(1000))
	found := 0
	for rate := uint64(1001); rate < 4000; rate++ {
		size := new(big.Int).Div(most, whole(rate)).Uint64() + 1
		down, e := Part(size, rate, 1000)
		if e != api.OK {
			continue
		}
		found++
		if got, e := Need(size, rate); got != 0 || e != api.ErrRange {
			t.Errorf("Need(%d, %d): %d, %d, though rounded down it is %d", size, rate, got, e, down)
		}
	}
	if found == 0 {
		t.Error("no such size and rate were tried")
	}
}

// P1.3, P1.4
func TestNeedIsTheLeast(t *testing.T) {
	for _, size := range edges() {
		for _, rate := range edges() {
			up := new(big.Int).Add(product(size, rate), whole(999))
			want, e := fitting(up.Div(up, whole(1000)))
			got, f := Need(size, rate)
			if got != want || f != e {
				t.Errorf("Need(%d, %d): %d, %d, not %d, %d", size, rate, got, f, want, e)
			}
			if f != api.OK {
				continue
			}
			if Cmp(got, 1000, size, rate) < 0 {
				t.Errorf("Need(%d, %d): %d is too little", size, rate, got)
			}
			if got > 0 && Cmp(got-1, 1000, size, rate) >= 0 {
				t.Errorf("Need(%d, %d): %d isn't the least", size, rate, got)
			}
		}
	}
}

// P1.4
func TestTimesNeverFall(t *testing.T) {
	for _, now := range edges() {
		for _, a := range edges() {
			one := Later(now, a)
			if one < now {
				t.Errorf("Later(%d, %d): %d", now, a, one)
			}
			for _, b := range edges() {
				if two := Later(now, a, b); two < one || two != Later(one, b) {
					t.Errorf("Later(%d, %d, %d): %d, behind %d", now, a, b, two, one)
				}
			}
		}
		if got := Later(greatest, now); got != greatest {
			t.Errorf("Later(greatest, %d): %d", now, got)
		}
	}
}
