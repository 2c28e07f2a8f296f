package natural_test

import (
	"math/big"
	"math/rand"
	"strings"
	"testing"

	"portion/natural"
)

// edges: values about the ends of limbs and of widths of ints.
func edges() []string {
	l := []string{"0", "1", "2", "3", "7", "10", "99", "9999", "10000", "10001", "19999", "20000", "99999999", "100000000", "100000001", "2147483647", "2147483648", "4294967296", "9223372036854775807", "9223372036854775808", "18446744073709551616", "100009999", "199999999", "99990000", "9999000000009999"}
	for _, n := range []int{40, 41, 42, 43, 300, 601} {
		l = append(l, strings.Repeat("9", n), "1"+strings.Repeat("0", n), "1"+strings.Repeat("0", n-1)+"1", "1"+strings.Repeat("9", n))
	}
	return l
}

func drawn(r *rand.Rand, n int) string {
	digits := make([]byte, n)
	from := "0123456789"
	if r.Intn(2) == 0 {
		from = "0000999991"
	}
	for i := range digits {
		digits[i] = from[r.Intn(len(from))]
	}
	s := strings.TrimLeft(string(digits), "0")
	if s == "" {
		return "0"
	}
	return s
}

func read(t *testing.T, s string) natural.Number {
	t.Helper()
	a, ok := natural.Parse(s)
	if !ok {
		t.Fatalf("Parse(%q) is refused", s)
	}
	return a
}

func same(t *testing.T, what string, got natural.Number, want *big.Int) {
	t.Helper()
	if got.Text() != want.String() {
		t.Fatalf("%s = %s, want %s", what, got.Text(), want)
	}
}

func TestParseAndText(t *testing.T) {
	for _, s := range edges() {
		if got := read(t, s).Text(); got != s {
			t.Errorf("the text of %s is %s", s, got)
		}
	}
	for _, s := range []string{"", "00", "01", "00001", "-1", "+1", " 1", "1 ", "1/2", "a", "1a", "99990a999", "1\x00", "\xff", "\u0661"} {
		if a, ok := natural.Parse(s); ok || !a.IsZero() {
			t.Errorf("Parse(%q) = %s, %v, want 0, false", s, a.Text(), ok)
		}
	}
	var zero natural.Number
	if !zero.IsZero() || zero.Text() != "0" || !read(t, "0").IsZero() || read(t, "10000").IsZero() {
		t.Error("0 is not told from the others")
	}
	if natural.One().Text() != "1" {
		t.Error("One is not 1")
	}
}

func reckon(t *testing.T, s string, u string) {
	t.Helper()
	a, b := read(t, s), read(t, u)
	x, _ := new(big.Int).SetString(s, 10)
	y, _ := new(big.Int).SetString(u, 10)
	if got := natural.Compare(a, b); got != x.Cmp(y) {
		t.Fatalf("Compare(%s, %s) = %d", s, u, got)
	}
	same(t, s+" + "+u, natural.Add(a, b), new(big.Int).Add(x, y))
	same(t, s+" * "+u, natural.Multiply(a, b), new(big.Int).Mul(x, y))
	same(t, "gcd of "+s+", "+u, natural.CommonDivisor(a, b), new(big.Int).GCD(nil, nil, x, y))
	less := new(big.Int).Sub(x, y)
	if less.Sign() < 0 {
		less.SetInt64(0)
	}
	same(t, s+" - "+u, natural.Subtract(a, b), less)
	quotient, rest := new(big.Int), x
	if y.Sign() != 0 {
		quotient, rest = new(big.Int).QuoRem(x, y, new(big.Int))
	}
	same(t, s+" / "+u, natural.Quotient(a, b), quotient)
	same(t, s+" % "+u, natural.Remainder(a, b), rest)
	if a.Text() != s || b.Text() != u {
		t.Fatalf("%s and %s were written into", s, u)
	}
}

func TestReckonAtEdges(t *testing.T) {
	for _, s := range edges() {
		for _, u := range edges() {
			reckon(t, s, u)
		}
	}
}

func TestReckonDrawn(t *testing.T) {
	r := rand.New(rand.NewSource(2))
	for range 5000 {
		reckon(t, drawn(r, 1+r.Intn(60)), drawn(r, 1+r.Intn(60)))
	}
	for range 300 {
		reckon(t, drawn(r, 600), drawn(r, 1+r.Intn(600)))
	}
}
