package ratio_test

import (
	"math"
	"math/big"
	"strconv"
	"strings"
	"testing"

	"portion/api"
	"portion/ratio"
)

// texts: among them some that are longer than what package exact takes.
func texts() []string {
	nines := strings.Repeat("9", 700)
	return []string{"0", "1", "-1", "2", "-2", "1/2", "-1/2", "2/3", "-2/3", "9999/10000", "-10001/10000", "7/3", "-7/3", "100000000/3", nines, "-" + nines, "1/" + nines, "-" + nines + "/1" + strings.Repeat("0", 700)}
}

func read(t *testing.T, s string) (ratio.Fraction, *big.Rat) {
	t.Helper()
	a, ok := ratio.Parse(s)
	if !ok {
		t.Fatalf("Parse(%.40q) is refused", s)
	}
	if a.Text() != s {
		t.Fatalf("the text of %.40s is %.40s", s, a.Text())
	}
	x, _ := new(big.Rat).SetString(s)
	return a, x
}

func same(t *testing.T, what string, got ratio.Fraction, want *big.Rat) {
	t.Helper()
	if got.Text() != want.RatString() {
		t.Errorf("%s = %.60s, want %.60s", what, got.Text(), want.RatString())
	}
}

func TestParseRefuses(t *testing.T) {
	for _, s := range []string{"", "-", "/", "-/", "-0", "--1", "0/2", "-0/2", "1/0", "1/1", "2/4", "1/-2", "-1/-2", "1/2/3", "1/2/", "01", "1/02", "1/"} {
		a, ok := ratio.Parse(s)
		if ok || a.Text() != (ratio.Fraction{}).Text() {
			t.Errorf("Parse(%q) = %s, %v, want nothing, false", s, a.Text(), ok)
		}
	}
}

func TestReckon(t *testing.T) {
	for _, s := range texts() {
		a, x := read(t, s)
		whole := new(big.Int).Div(x.Num(), x.Denom())
		same(t, "the floor", ratio.Floor(a), new(big.Rat).SetInt(whole))
		for _, u := range texts() {
			b, y := read(t, u)
			same(t, "the sum", ratio.Add(a, b), new(big.Rat).Add(x, y))
			same(t, "the difference", ratio.Subtract(a, b), new(big.Rat).Sub(x, y))
			same(t, "the product", ratio.Multiply(a, b), new(big.Rat).Mul(x, y))
			if got := ratio.Compare(a, b); got != x.Cmp(y) {
				t.Errorf("Compare(%.40s, %.40s) = %d", s, u, got)
			}
			quotient, ok := ratio.Divide(a, b)
			if ok != (u != "0") {
				t.Errorf("Divide by %.40s: %v", u, ok)
			}
			if ok {
				same(t, "the quotient", quotient, new(big.Rat).Quo(x, y))
			}
			if a.Text() != s || b.Text() != u {
				t.Errorf("%.40s and %.40s were written into", s, u)
			}
		}
	}
}

func TestWhole(t *testing.T) {
	for _, n := range []int{0, 1, -1, 9999, 10000, -10000, 100010000, math.MaxInt, math.MinInt} {
		if got := ratio.Whole(n).Text(); got != strconv.Itoa(n) {
			t.Errorf("Whole(%d) is %s", n, got)
		}
	}
}

func TestReadTakesNoLongText(t *testing.T) {
	nines := strings.Repeat("9", api.MaxText)
	for _, s := range []string{"0", "-7/3", nines, "-" + nines[1:], "1/" + nines[2:]} {
		a, ok := ratio.Read(s)
		if !ok || a.Text() != s {
			t.Errorf("Read(%.40q) = %.40s, %v", s, a.Text(), ok)
		}
	}
	for _, s := range []string{"", "2/4", "9" + nines, "-" + nines, "1/" + nines[1:]} {
		a, ok := ratio.Read(s)
		if ok || a.Text() != (ratio.Fraction{}).Text() {
			t.Errorf("Read(%.40q) = %.40s, %v, want nothing, false", s, a.Text(), ok)
		}
	}
}
