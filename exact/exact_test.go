package exact_test

import (
	"math/big"
	"math/rand"
	"regexp"
	"strings"
	"testing"

	"portion/api"
	"portion/exact"
)

var shape = regexp.MustCompile(`^(0|-?[1-9][0-9]*(/[1-9][0-9]*)?)$`)

// value: P3 once more, in other words; nil if the text is no fraction.
func value(s string) *big.Rat {
	if len(s) < 1 || len(s) > 300 || !shape.MatchString(s) {
		return nil
	}
	x, ok := new(big.Rat).SetString(s)
	if !ok || x.RatString() != s {
		return nil
	}
	return x
}

// strange: texts of all sorts, with and without a value.
func strange() []string {
	nines := strings.Repeat("9", 400)
	noughts := strings.Repeat("0", 400)
	return []string{
		"", "-", "/", "//", "-/", "/-", "-0", "0", "00", "1", "-1", "01", "-01", "+1", "--1", "1-", "1--", " 1", "1 ", "1\n", "\n1", "1.5", "1e3", "0x1", "1_000",
		"0/5", "0/1", "-0/5", "0/0", "1/0", "1/1", "-1/1", "1/", "/2", "-/2", "1/-2", "1/+2", "1/02", "01/2", "2/4", "10/5", "7/7", "6/9", "-6/9", "1/2/3", "1//2", "1/2/", "1/ 2",
		"7", "-7/3", "7/3", "1/2", "9999/10000", "10000/9999", "-10000/9999", "20000/9998", "\x00", "1\x00", "\xff", "\u0661", "1\u0661", "1/\u0661", "\u22121", "1\u20442",
		nines[:299], nines[:300], nines[:301], "-" + nines[:298], "-" + nines[:299], "-" + nines[:300],
		"1/" + nines[:298], "1/" + nines[:299], "-1/" + nines[:297], "-1/" + nines[:298],
		nines[:149] + "/1" + noughts[:149], nines[:150] + "/1" + noughts[:149], "3" + noughts[:100] + "/6", "1" + noughts[:299], "1" + noughts[:300], noughts[:300],
		strings.Repeat("1", 3000000), strings.Repeat("/", 3000000), strings.Repeat("-", 300),
	}
}

func errnoOf(x *big.Rat) api.Errno {
	if x == nil {
		return api.ErrText
	}
	return api.OK
}

// checkPair holds every call of two texts against what math/big says (P1, P4, P5).
func checkPair(t *testing.T, a string, b string) {
	t.Helper()
	x, y := value(a), value(b)
	calls := []struct {
		name string
		call func(string, string) (string, api.Errno)
		want func(*big.Rat, *big.Rat) *big.Rat
	}{
		{"Add", exact.Add, new(big.Rat).Add},
		{"Subtract", exact.Subtract, new(big.Rat).Sub},
		{"Multiply", exact.Multiply, new(big.Rat).Mul},
		{"Divide", exact.Divide, new(big.Rat).Quo},
	}
	for _, c := range calls {
		want, errno := "", api.ErrText
		if x != nil && y != nil {
			errno = api.OK
			if c.name == "Divide" && y.Sign() == 0 {
				errno = api.ErrZero
			} else {
				want = c.want(x, y).RatString()
			}
		}
		if s, e := c.call(a, b); s != want || e != errno {
			t.Errorf("P4: %s(%.40q, %.40q) = %.40q, %d, want %.40q, %d", c.name, a, b, s, e, want, errno)
		}
	}
	order, errno := 0, api.ErrText
	if x != nil && y != nil {
		order, errno = x.Cmp(y), api.OK
	}
	if n, e := exact.Compare(a, b); n != order || e != errno {
		t.Errorf("P5: Compare(%.40q, %.40q) = %d, %d, want %d, %d", a, b, n, e, order, errno)
	}
}

func checkOne(t *testing.T, a string) {
	t.Helper()
	x := value(a)
	if e := exact.Check(a); e != errnoOf(x) {
		t.Errorf("P3: Check(%.40q) = %d, want %d", a, e, errnoOf(x))
	}
	want := ""
	if x != nil {
		want = new(big.Int).Div(x.Num(), x.Denom()).String()
	}
	if s, e := exact.Floor(a); s != want || e != errnoOf(x) {
		t.Errorf("P5: Floor(%.40q) = %.40q, %d, want %.40q, %d", a, s, e, want, errnoOf(x))
	}
}

// The examples of the document, word for word.
func TestExamples(t *testing.T) {
	for _, s := range []string{"7", "-7/3", "0"} {
		if e := exact.Check(s); e != api.OK {
			t.Errorf("P3: Check(%q) = %d, want OK", s, e)
		}
	}
	for _, s := range []string{"", "2/4", "-0", "0/5", "1/1", "01", "+1", "1/-2", "1/02", "--1", "1/"} {
		if e := exact.Check(s); e != api.ErrText {
			t.Errorf("P3: Check(%q) = %d, want ErrText", s, e)
		}
	}
	if s, e := exact.Add("1/2", "1/3"); s != "5/6" || e != api.OK {
		t.Errorf("P4: Add(1/2, 1/3) = %q, %d", s, e)
	}
	if s, e := exact.Subtract("1/2", "1/2"); s != "0" || e != api.OK {
		t.Errorf("P4: Subtract(1/2, 1/2) = %q, %d", s, e)
	}
	if s, e := exact.Multiply("-2/3", "3/2"); s != "-1" || e != api.OK {
		t.Errorf("P4: Multiply(-2/3, 3/2) = %q, %d", s, e)
	}
	if s, e := exact.Divide("1", "-3"); s != "-1/3" || e != api.OK {
		t.Errorf("P4: Divide(1, -3) = %q, %d", s, e)
	}
	if n, e := exact.Compare("-1/2", "-1/3"); n != -1 || e != api.OK {
		t.Errorf("P5: Compare(-1/2, -1/3) = %d, %d", n, e)
	}
	for _, c := range [][2]string{{"-1/2", "-1"}, {"7/2", "3"}} {
		if s, e := exact.Floor(c[0]); s != c[1] || e != api.OK {
			t.Errorf("P5: Floor(%s) = %q, %d, want %s", c[0], s, e, c[1])
		}
	}
}

// Every text of up to six bytes out of a few: P3 leaves no room between.
func TestCheckAllShortTexts(t *testing.T) {
	texts := []string{""}
	for from := 0; from < len(texts); from++ {
		s := texts[from]
		checkOne(t, s)
		if len(s) == 6 {
			continue
		}
		for _, c := range []string{"-", "/", "0", "1", "2", "9", ":"} {
			texts = append(texts, s+c)
		}
	}
}

// Every byte, at the places where a digit, a minus or a slash may stand.
func TestCheckEveryByte(t *testing.T) {
	for c := range 256 {
		b := string([]byte{byte(c)})
		for _, s := range []string{b, b + "7", "1" + b, "1" + b + "7", "1/" + b, "1/7" + b, "-" + b, "1234" + b + "5678"} {
			checkOne(t, s)
		}
	}
}

// P1, P3 to P5: whatever is handed in, an answer comes, and the right one.
func TestStrangeTexts(t *testing.T) {
	for _, a := range strange() {
		checkOne(t, a)
		for _, b := range strange() {
			checkPair(t, a, b)
		}
	}
}

// P1: Divide names ErrText first.
func TestDivideErrorOrder(t *testing.T) {
	for _, c := range []struct {
		a, b string
		want api.Errno
	}{
		{"x", "0", api.ErrText}, {"", "0", api.ErrText}, {"2/4", "0", api.ErrText}, {"-0", "0", api.ErrText},
		{"1", "-0", api.ErrText}, {"1", "00", api.ErrText}, {"1", "0/5", api.ErrText},
		{"1", "0", api.ErrZero}, {"0", "0", api.ErrZero}, {"-3/7", "0", api.ErrZero},
	} {
		if s, e := exact.Divide(c.a, c.b); s != "" || e != c.want {
			t.Errorf("P1, P4: Divide(%q, %q) = %q, %d, want %d", c.a, c.b, s, e, c.want)
		}
	}
}

// P3, P4: an answer may be longer than what may be handed in.
func TestLongAnswers(t *testing.T) {
	nines := strings.Repeat("9", 300)
	long, e := exact.Add(nines, "1")
	if long != "1"+strings.Repeat("0", 300) || e != api.OK {
		t.Errorf("P4: 300 nines and 1 = %.40q, %d", long, e)
	}
	if e := exact.Check(long); e != api.ErrText {
		t.Errorf("P3: Check of 301 bytes = %d, want ErrText", e)
	}
	if s, e := exact.Subtract(long, "1"); s != "" || e != api.ErrText {
		t.Errorf("P4: Subtract of 301 bytes = %.40q, %d, want ErrText", s, e)
	}
	low := "-" + strings.Repeat("9", 148) + "/1" + strings.Repeat("0", 149)
	for _, b := range []string{low, "1/" + strings.Repeat("7", 298), "-" + strings.Repeat("8", 299), nines} {
		checkPair(t, low, b)
		checkPair(t, b, low)
	}
	square, e := exact.Multiply(low, "1/"+strings.Repeat("7", 298))
	if len(square) <= 300 || e != api.OK {
		t.Errorf("P4: a product of %d bytes, %d", len(square), e)
	}
}

// P2: what came before changes no answer.
func TestAnswersHangOnArgumentsAlone(t *testing.T) {
	first, _ := exact.Add("10000000000/3", "-1/7")
	exact.Multiply("99999999", "99999999")
	exact.Divide("x", "0")
	exact.Divide("1", "0")
	second, e := exact.Add("10000000000/3", "-1/7")
	if first != "69999999997/21" || second != first || e != api.OK {
		t.Errorf("P2: the same sum is %q, then %q, %d", first, second, e)
	}
}

func TestSmallValues(t *testing.T) {
	var texts []string
	for p := int64(-12); p <= 12; p++ {
		for q := int64(1); q <= 6; q++ {
			texts = append(texts, big.NewRat(p, q).RatString())
		}
	}
	for _, a := range texts {
		checkOne(t, a)
		for _, b := range texts {
			checkPair(t, a, b)
		}
	}
}

// drawn: a fraction of up to 300 bytes whose parts often share divisors with those of others.
func drawn(r *rand.Rand) string {
	part := func(n int) *big.Int {
		x := big.NewInt(1)
		for range 1 + r.Intn(3) {
			f := new(big.Int).Rand(r, new(big.Int).Exp(big.NewInt(10), big.NewInt(int64(1+r.Intn(n))), nil))
			if r.Intn(2) == 0 {
				f.Exp(big.NewInt(int64(2+r.Intn(9))), big.NewInt(int64(r.Intn(n))), nil)
			}
			x.Mul(x, f)
		}
		return x
	}
	for {
		p, q := part(50), part(50)
		if q.Sign() == 0 {
			continue
		}
		if r.Intn(2) == 0 {
			p.Neg(p)
		}
		s := new(big.Rat).SetFrac(p, q).RatString()
		if len(s) <= 300 {
			return s
		}
	}
}

func TestDrawnValues(t *testing.T) {
	r := rand.New(rand.NewSource(3))
	for range 2000 {
		a, b := drawn(r), drawn(r)
		checkOne(t, a)
		checkPair(t, a, b)
	}
}
