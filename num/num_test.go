package num_test

import (
	"math"
	"math/big"
	"slices"
	"testing"

	"quittance/api"
	"quittance/num"
)

var (
	least    = api.Wide{Hi: math.MinInt64}
	greatest = api.Wide{Hi: math.MaxInt64, Lo: math.MaxUint64}
)

// number is the NUMBER of a Wide, as the chapter words it.
func number(a api.Wide) *big.Int {
	n := new(big.Int).Lsh(big.NewInt(a.Hi), 64)
	return n.Add(n, new(big.Int).SetUint64(a.Lo))
}

// around says whether two numbers are the same, or 2^128 away from one another.
func around(a, b *big.Int) bool {
	d := new(big.Int).Sub(a, b)
	return d.Sign() == 0 || d.CmpAbs(new(big.Int).Lsh(big.NewInt(1), 128)) == 0
}

// narrow are the powers of 2, their neighbours, and some others, of both signs.
func narrow() []int64 {
	l := []int64{0, 3, -3, 5, -5, 7, -7, 10, -10, 99, -100, 1e18, -1e18, 1<<62 + 12345, -(1<<62 + 12345), 3037000499, 3037000500, -3037000500}
	for k := range 64 {
		p := int64(1) << k
		l = append(l, p, p-1, p+1, -p, -p-1, -p+1)
	}
	slices.Sort(l)
	return slices.Compact(l)
}

// wides have words of all kinds in each place.
func wides() []api.Wide {
	var l []api.Wide
	words := []int64{0, 1, -1, 2, -2, 9, 10, math.MaxInt64, math.MinInt64, math.MaxInt64 - 1, math.MinInt64 + 1, 1 << 62, -1 << 62, 0x123456789abcdef, -0x123456789abcdef, 1 << 32, -1 << 32, 1<<32 - 1}
	for _, hi := range words {
		for _, lo := range words {
			l = append(l, api.Wide{Hi: hi, Lo: uint64(lo)})
		}
	}
	for k := range 64 {
		l = append(l, api.Wide{Hi: 1 << k}, api.Wide{Hi: -1 << k}, api.Wide{Lo: 1 << k}, api.Wide{Hi: -1, Lo: 1 << k})
	}
	return l
}

// told says whether n, ok is what a call has to tell that is to be want.
func told(n int64, ok bool, want *big.Int) bool {
	if want.IsInt64() {
		return ok && n == want.Int64()
	}
	return !ok && n == 0
}

func TestCheckedAtEnds(t *testing.T) {
	const low, high = math.MinInt64, math.MaxInt64
	checks := []struct {
		name string
		call func(a, b int64) (int64, bool)
		a, b int64
		n    int64
		ok   bool
	}{
		{"Add", num.Add, 0, 0, 0, true},
		{"Add", num.Add, 40, 2, 42, true},
		{"Add", num.Add, -40, -2, -42, true},
		{"Add", num.Add, high, 1, 0, false},
		{"Add", num.Add, high, 0, high, true},
		{"Add", num.Add, high - 1, 1, high, true},
		{"Add", num.Add, high, high, 0, false},
		{"Add", num.Add, low, -1, 0, false},
		{"Add", num.Add, -1, low, 0, false},
		{"Add", num.Add, low + 1, -1, low, true},
		{"Add", num.Add, low, low, 0, false},
		{"Add", num.Add, low, high, -1, true},
		{"Sub", num.Sub, 40, 2, 38, true},
		{"Sub", num.Sub, 2, 40, -38, true},
		{"Sub", num.Sub, low, 1, 0, false},
		{"Sub", num.Sub, low + 1, 1, low, true},
		{"Sub", num.Sub, high, -1, 0, false},
		{"Sub", num.Sub, high - 1, -1, high, true},
		{"Sub", num.Sub, 0, low, 0, false},
		{"Sub", num.Sub, -1, low, high, true},
		{"Sub", num.Sub, low, low, 0, true},
		{"Sub", num.Sub, high, low, 0, false},
		{"Mul", num.Mul, -3, 5, -15, true},
		{"Mul", num.Mul, -3, -5, 15, true},
		{"Mul", num.Mul, low, 1, low, true},
		{"Mul", num.Mul, 1, low, low, true},
		{"Mul", num.Mul, low, -1, 0, false},
		{"Mul", num.Mul, -1, low, 0, false},
		{"Mul", num.Mul, low, 0, 0, true},
		{"Mul", num.Mul, low, low, 0, false},
		{"Mul", num.Mul, high, -1, low + 1, true},
		{"Mul", num.Mul, high, 2, 0, false},
		{"Mul", num.Mul, high, high, 0, false},
		{"Mul", num.Mul, 1 << 32, 1 << 31, 0, false},
		{"Mul", num.Mul, 1 << 32, -1 << 31, low, true},
		{"Mul", num.Mul, 1 << 32, 1 << 32, 0, false},
	}
	for _, c := range checks {
		if n, ok := c.call(c.a, c.b); n != c.n || ok != c.ok {
			t.Errorf("%s of %d and %d: %d, %v", c.name, c.a, c.b, n, ok)
		}
	}
}

func TestCheckedOfAll(t *testing.T) {
	calls := []struct {
		name string
		call func(a, b int64) (int64, bool)
		want func(z, a, b *big.Int) *big.Int
	}{
		{"Add", num.Add, (*big.Int).Add},
		{"Sub", num.Sub, (*big.Int).Sub},
		{"Mul", num.Mul, (*big.Int).Mul},
	}
	for _, a := range narrow() {
		for _, b := range narrow() {
			for _, c := range calls {
				n, ok := c.call(a, b)
				if !told(n, ok, c.want(new(big.Int), big.NewInt(a), big.NewInt(b))) {
					t.Errorf("%s of %d and %d: %d, %v", c.name, a, b, n, ok)
				}
			}
		}
	}
}

func TestNeg(t *testing.T) {
	if n, ok := num.Neg(math.MinInt64); n != 0 || ok {
		t.Errorf("Neg of -2^63: %d, %v", n, ok)
	}
	if n, ok := num.Neg(math.MaxInt64); n != -math.MaxInt64 || !ok {
		t.Errorf("Neg of 2^63 - 1: %d, %v", n, ok)
	}
	for _, a := range narrow() {
		if n, ok := num.Neg(a); !told(n, ok, new(big.Int).Neg(big.NewInt(a))) {
			t.Errorf("Neg of %d: %d, %v", a, n, ok)
		}
	}
}

func TestOf(t *testing.T) {
	if num.Of(0) != (api.Wide{}) || num.Of(1) != (api.Wide{Lo: 1}) || num.Of(-1) != (api.Wide{Hi: -1, Lo: math.MaxUint64}) {
		t.Error("Of of 0, 1 or -1")
	}
	if num.Of(math.MinInt64) != (api.Wide{Hi: -1, Lo: 1 << 63}) || num.Of(math.MaxInt64) != (api.Wide{Lo: math.MaxInt64}) {
		t.Error("Of of -2^63 or 2^63 - 1")
	}
	for _, a := range narrow() {
		if number(num.Of(a)).Cmp(big.NewInt(a)) != 0 {
			t.Errorf("Of of %d: %v", a, num.Of(a))
		}
	}
}

func TestPlusMinusGoRound(t *testing.T) {
	one := num.Of(1)
	if num.Plus(greatest, one) != least {
		t.Error("2^127 - 1 and 1 do not go round to -2^127")
	}
	if num.Minus(least, one) != greatest {
		t.Error("-2^127 less 1 does not go round to 2^127 - 1")
	}
	if num.Plus(least, least) != (api.Wide{}) || num.Plus(greatest, greatest) != num.Of(-2) {
		t.Error("the ends twice")
	}
	if num.Minus(api.Wide{}, least) != least {
		t.Error("0 less -2^127 does not go round to -2^127")
	}
	if num.Minus(greatest, num.Of(-1)) != least || num.Plus(least, greatest) != num.Of(-1) {
		t.Error("both ends together")
	}
	if num.Plus(api.Wide{Lo: math.MaxUint64}, one) != (api.Wide{Hi: 1}) || num.Minus(api.Wide{Hi: 1}, one) != (api.Wide{Lo: math.MaxUint64}) {
		t.Error("what goes from one word to the other one")
	}
}

func TestPlusMinusOfAll(t *testing.T) {
	l := wides()
	for _, a := range l {
		for _, b := range l {
			if !around(number(num.Plus(a, b)), new(big.Int).Add(number(a), number(b))) {
				t.Errorf("Plus of %v and %v: %v", a, b, num.Plus(a, b))
			}
			if !around(number(num.Minus(a, b)), new(big.Int).Sub(number(a), number(b))) {
				t.Errorf("Minus of %v and %v: %v", a, b, num.Minus(a, b))
			}
		}
	}
}

func TestTimes(t *testing.T) {
	if num.Times(math.MinInt64, math.MinInt64) != (api.Wide{Hi: 1 << 62}) {
		t.Error("-2^63 times itself is not 2^126")
	}
	if num.Times(math.MinInt64, 0) != (api.Wide{}) || num.Times(0, -5) != (api.Wide{}) || num.Times(-3, 5) != num.Of(-15) || num.Times(-3, -5) != num.Of(15) {
		t.Error("Times of small numbers, or of 0")
	}
	for _, a := range narrow() {
		for _, b := range narrow() {
			if number(num.Times(a, b)).Cmp(new(big.Int).Mul(big.NewInt(a), big.NewInt(b))) != 0 {
				t.Errorf("Times of %d and %d: %v", a, b, num.Times(a, b))
			}
		}
	}
}

func TestCompare(t *testing.T) {
	rising := []api.Wide{least, {Hi: math.MinInt64, Lo: 1}, {Hi: -1}, num.Of(math.MinInt64), num.Of(-2), num.Of(-1), {}, num.Of(1), num.Of(math.MaxInt64), {Lo: 1 << 63}, {Lo: math.MaxUint64}, {Hi: 1}, greatest}
	for j, a := range rising {
		for k, b := range rising {
			want := 0
			if j < k {
				want = -1
			} else if j > k {
				want = 1
			}
			if num.Compare(a, b) != want {
				t.Errorf("Compare of %v and %v: %d", a, b, num.Compare(a, b))
			}
		}
	}
	l := wides()
	for _, a := range l {
		for _, b := range l {
			if num.Compare(a, b) != number(a).Cmp(number(b)) {
				t.Errorf("Compare of %v and %v: %d", a, b, num.Compare(a, b))
			}
		}
	}
}

func TestSum(t *testing.T) {
	if num.Sum() != num.Of(0) || num.Sum(nil...) != num.Of(0) || num.Sum([]int64{}...) != num.Of(0) {
		t.Error("Sum of none is not 0")
	}
	if num.Sum(-7) != num.Of(-7) || num.Sum(1, 2, -3) != num.Of(0) || num.Sum(1, 2, 4) != num.Of(7) {
		t.Error("Sum of a few")
	}
	if num.Sum(math.MaxInt64, 1) != (api.Wide{Lo: 1 << 63}) || num.Sum(math.MinInt64, -1) != (api.Wide{Hi: -1, Lo: 1<<63 - 1}) {
		t.Error("Sum of what is too great for 64 bits")
	}
	if num.Sum(math.MinInt64, math.MinInt64, math.MinInt64) != (api.Wide{Hi: -2, Lo: 1 << 63}) {
		t.Error("Sum of what goes over to the other word")
	}
}

func TestSumLeavesItsList(t *testing.T) {
	l := []int64{5, -9, math.MaxInt64, math.MaxInt64, 77}
	was := slices.Clone(l)
	want := new(big.Int)
	for _, n := range l[:4] {
		want.Add(want, big.NewInt(n))
	}
	for range 2 {
		if number(num.Sum(l[:4]...)).Cmp(want) != 0 {
			t.Errorf("Sum of %v: %v", l[:4], num.Sum(l[:4]...))
		}
	}
	if !slices.Equal(l, was) {
		t.Error("Sum changed its list")
	}
}

func TestBack(t *testing.T) {
	checks := []struct {
		a  api.Wide
		n  int64
		ok bool
	}{
		{api.Wide{}, 0, true},
		{num.Of(-1), -1, true},
		{api.Wide{Lo: math.MaxInt64}, math.MaxInt64, true},
		{api.Wide{Lo: 1 << 63}, 0, false},
		{api.Wide{Lo: math.MaxUint64}, 0, false},
		{api.Wide{Hi: -1, Lo: 1 << 63}, math.MinInt64, true},
		{api.Wide{Hi: -1, Lo: 1<<63 - 1}, 0, false},
		{api.Wide{Hi: -1}, 0, false},
		{api.Wide{Hi: 1}, 0, false},
		{api.Wide{Hi: 1, Lo: 5}, 0, false},
		{api.Wide{Hi: -2, Lo: math.MaxUint64}, 0, false},
		{least, 0, false},
		{greatest, 0, false},
	}
	for _, c := range checks {
		if n, ok := num.Back(c.a); n != c.n || ok != c.ok {
			t.Errorf("Back of %v: %d, %v", c.a, n, ok)
		}
	}
	for _, a := range wides() {
		if n, ok := num.Back(a); !told(n, ok, number(a)) {
			t.Errorf("Back of %v: %d, %v", a, n, ok)
		}
	}
	for _, n := range narrow() {
		if m, ok := num.Back(num.Of(n)); m != n || !ok {
			t.Errorf("Back of Of of %d: %d, %v", n, m, ok)
		}
	}
}

func TestText(t *testing.T) {
	checks := []struct {
		a    api.Wide
		text string
	}{
		{api.Wide{}, "0"},
		{num.Of(7), "7"},
		{num.Of(-7), "-7"},
		{num.Of(10), "10"},
		{num.Of(-100), "-100"},
		{num.Of(1020), "1020"},
		{num.Of(math.MaxInt64), "9223372036854775807"},
		{num.Of(math.MinInt64), "-9223372036854775808"},
		{num.Times(math.MinInt64, 2), "-18446744073709551616"},
		{api.Wide{Lo: math.MaxUint64}, "18446744073709551615"},
		{api.Wide{Hi: 1}, "18446744073709551616"},
		{num.Times(1e18, 1e18), "1000000000000000000000000000000000000"},
		{least, "-170141183460469231731687303715884105728"},
		{greatest, "170141183460469231731687303715884105727"},
	}
	for _, c := range checks {
		if num.Text(c.a) != c.text {
			t.Errorf("Text of %v: %s", c.a, num.Text(c.a))
		}
	}
	for _, a := range wides() {
		if num.Text(a) != number(a).String() {
			t.Errorf("Text of %v: %s", a, num.Text(a))
		}
	}
	for _, n := range narrow() {
		if num.Text(num.Of(n)) != big.NewInt(n).String() {
			t.Errorf("Text of Of of %d: %s", n, num.Text(num.Of(n)))
		}
	}
}
