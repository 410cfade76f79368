package num

import (
	"math"
	"math/big"
	"strconv"
	"strings"
	"testing"

	"incognito/api"
)

// whole answers the number whose text s is, in the chapter's own words and by
// the library, however great; nil: it is the text of none.
func whole(s string) *big.Int {
	n, ok := new(big.Int).SetString(s, 10)
	if !ok || n.String() != s {
		return nil
	}
	return n
}

// parsed is what Parse is to answer.
func parsed(s string) (int64, api.Errno) {
	n := whole(s)
	switch {
	case n == nil:
		return 0, api.ErrSyntax
	case !n.IsInt64():
		return 0, api.ErrNumber
	}
	return n.Int64(), api.OK
}

// counts is what Count is to answer.
func counts(s string, most int64) (int64, api.Errno) {
	n := whole(s)
	switch {
	case n == nil || n.Sign() < 0:
		return 0, api.ErrSyntax
	case n.Cmp(big.NewInt(most)) > 0:
		return 0, api.ErrNumber
	}
	return n.Int64(), api.OK
}

// short is s, or how it begins, so that a fault of a long text can be read.
func short(s string) string {
	if len(s) > 50 {
		return strconv.Quote(s[:50]) + " .. of " + strconv.Itoa(len(s)) + " bytes"
	}
	return strconv.Quote(s)
}

func checkParse(t *testing.T, s string, want int64, wantE api.Errno) {
	t.Helper()
	if n, e := Parse(s); n != want || e != wantE {
		t.Errorf("Parse(%s) = %d, %d, want %d, %d", short(s), n, e, want, wantE)
	}
}

func checkCount(t *testing.T, s string, most, want int64, wantE api.Errno) {
	t.Helper()
	if n, e := Count(s, most); n != want || e != wantE {
		t.Errorf("Count(%s, %d) = %d, %d, want %d, %d", short(s), most, n, e, want, wantE)
	}
}

// bounds are numbers that most may be: at and around the ends, 0, and where the
// digits grow by one.
func bounds() []int64 {
	return []int64{math.MinInt64, math.MinInt64 + 1, -1 << 32, -10, -9, -2, -1, 0, 1, 2, 8, 9, 10, 11, 99, 100, 101,
		1<<31 - 1, 1 << 31, 1<<32 - 1, 1 << 32, 1<<62 - 1, 1 << 62, math.MaxInt64 - 8, math.MaxInt64 - 7, math.MaxInt64 - 1, math.MaxInt64}
}

// P6.1: Print.

func TestPrint(t *testing.T) {
	for _, c := range []struct {
		n    int64
		want string
	}{
		{0, "0"},
		{1, "1"},
		{-1, "-1"},
		{7, "7"},
		{9, "9"},
		{10, "10"},
		{-10, "-10"},
		{1000, "1000"},
		{-1000, "-1000"},
		{1234567890, "1234567890"},
		{-9876543210, "-9876543210"},
		{1 << 32, "4294967296"},
		{-1 << 32, "-4294967296"},
		{math.MaxInt64, "9223372036854775807"},
		{math.MaxInt64 - 1, "9223372036854775806"},
		{math.MinInt64, "-9223372036854775808"},
		{math.MinInt64 + 1, "-9223372036854775807"},
	} {
		if s := Print(c.n); s != c.want {
			t.Errorf("Print(%d) = %q, want %q", c.n, s, c.want)
		}
		checkParse(t, c.want, c.n, api.OK)
	}
}

// P6.1: Parse, and P6.1: Count of what Parse and Count refuse alike.

// noTexts are the texts of no number at all.
func noTexts() []string {
	return []string{
		"", "-", "--", "-0", "-00", "-000",
		"00", "000", "01", "007", "0123456789", "09223372036854775807", // needless noughts
		"-01", "-007", "-09223372036854775808", "00000000000000000000", "-00000000000000000000000001",
		"+", "+0", "+5", "+-5", "-+5", "5+", "++5", // a +
		"--1", "1-", "1-1", "-1-", "0-", "0-0", "-0-1", // a - where none may be
		" ", " 1", "1 ", "1 1", " 1 ", " -1", "-1 ", "- 1", "0 ", " 0", "- ", " -", // blanks
		"\t1", "1\t", "\n1", "1\n", "1\r\n", "1\v", "\f1", "1\u00a0", "\u00a01", "\u20031", "1\u2003",
		"\x00", "\x001", "1\x00", "1\x001", "-\x001",
		"1e3", "1E3", "1.", ".1", "1.0", "0.0", "1,000", "1_000", "1'000", "_1", "1_",
		"0x", "0x1", "0X1F", "1f", "a", "f", "0b1", "0o7", "1n", "x1", "-0x1", "NaN", "inf", "-Inf", "one",
		"/", ":", "1/", "1:", "/1", ":1", "-/", "-:", "9:", "0/", "1;", "1)", // the neighbours of digits
		"٠", "١", "٧٧", "۱", "१", "１", "１２", "-１", "1１", "１1", "𝟏", "²", "1²", "½", "Ⅷ", "一", // digits that aren't the ten
		"−1", "‐1", "–1", "－1", "﹣1", // signs that aren't the -
		"ı", "ı1", "ȱ", "1ȱ", // signs whose numbers end like those of digits
		"\xff", "1\xff", "\xff1", "\xb1", "1\xb1", "-\xb0", "\xc2\xb2", "\x80", "\xf0\x9f", "\ufeff1", "1\ufeff", "\ufffd", // no signs at all
	}
}

func TestTextsOfNoNumber(t *testing.T) {
	for _, s := range noTexts() {
		if whole(s) != nil {
			t.Fatalf("%q is the text of a number", s)
		}
		checkParse(t, s, 0, api.ErrSyntax)
		for _, most := range bounds() {
			checkCount(t, s, most, 0, api.ErrSyntax)
		}
	}
}

// Each byte by itself, and ahead of, within and behind digits.
func TestEveryByte(t *testing.T) {
	for c := range 256 {
		b := string([]byte{byte(c)})
		for _, s := range []string{b, b + "5", "5" + b, "5" + b + "5", "-" + b, "-" + b + "5", "-5" + b, b + b, "0" + b} {
			n, e := parsed(s)
			checkParse(t, s, n, e)
			n, e = counts(s, 500)
			checkCount(t, s, 500, n, e)
		}
	}
}

func TestNumbersBeyond(t *testing.T) {
	for _, s := range []string{
		"9223372036854775808", "9223372036854775809", "9223372036854775810", "9223372036854775817", "9223372036854775899",
		"9223372036854776000", "9300000000000000000", "9999999999999999999", "10000000000000000000",
		"18446744073709551615", "18446744073709551616", "18446744073709551617", "18446744073709551623", // at 2^64
		"27670116110564327424", "36893488147419103232", "92233720368547758070", "92233720368547758080", "99999999999999999999",
		"184467440737095516150", "184467440737095516160", "340282366920938463463374607431768211456", "100000000000000000000000",
	} {
		checkParse(t, s, 0, api.ErrNumber)
		checkCount(t, s, math.MaxInt64, 0, api.ErrNumber)
		if s != "9223372036854775808" {
			checkParse(t, "-"+s, 0, api.ErrNumber)
		}
		checkCount(t, "-"+s, math.MaxInt64, 0, api.ErrSyntax)
	}
	checkParse(t, "-9223372036854775808", math.MinInt64, api.OK)
	checkParse(t, "-9223372036854775809", 0, api.ErrNumber)
	checkParse(t, "9223372036854775807", math.MaxInt64, api.OK)
}

// Around each multiple of 2^63, which as 64 bits would come out near 0.
func TestNumbersThatWouldWrap(t *testing.T) {
	half := new(big.Int).Lsh(big.NewInt(1), 63)
	for times := range int64(60) {
		middle := new(big.Int).Mul(half, big.NewInt(times))
		for off := int64(-40); off <= 40; off++ {
			n := new(big.Int).Add(middle, big.NewInt(off))
			for _, s := range []string{n.String(), n.Neg(n).String()} {
				want, e := parsed(s)
				checkParse(t, s, want, e)
				for _, most := range bounds() {
					want, e = counts(s, most)
					checkCount(t, s, most, want, e)
				}
			}
		}
	}
}

func TestNumbersOfVeryManyDigits(t *testing.T) {
	for _, many := range []int{20, 21, 64, 100, 1000, 65536, 1 << 20} {
		for _, digits := range []string{"1" + strings.Repeat("0", many), strings.Repeat("9", many), strings.Repeat("1", many)} {
			checkParse(t, digits, 0, api.ErrNumber)
			checkParse(t, "-"+digits, 0, api.ErrNumber)
			checkCount(t, digits, math.MaxInt64, 0, api.ErrNumber)
			checkCount(t, digits, 0, 0, api.ErrNumber)
			checkCount(t, "-"+digits, math.MaxInt64, 0, api.ErrSyntax)
			checkParse(t, "0"+digits, 0, api.ErrSyntax)
			checkParse(t, "-0"+digits, 0, api.ErrSyntax)
			checkCount(t, "0"+digits, math.MaxInt64, 0, api.ErrSyntax)
		}
		noughts := strings.Repeat("0", many)
		checkParse(t, noughts, 0, api.ErrSyntax)
		checkParse(t, "-"+noughts, 0, api.ErrSyntax)
		checkParse(t, noughts+"1", 0, api.ErrSyntax)
		checkCount(t, noughts, math.MaxInt64, 0, api.ErrSyntax)
		checkCount(t, noughts+"1", math.MaxInt64, 0, api.ErrSyntax)
	}
}

// ErrSyntax is named ahead of ErrNumber, so that it is told of a number that is
// too great, wherever in its text the fault lies.
func TestAFaultBehindANumberThatIsTooGreat(t *testing.T) {
	great := strings.Repeat("9", 40)
	for place := range len(great) + 1 {
		for _, fault := range []string{"x", "-", "+", " ", ".", "_", "\x00", "\n", "é", "\xff", ":", "/"} {
			s := great[:place] + fault + great[place:]
			checkCount(t, s, math.MaxInt64, 0, api.ErrSyntax)
			checkCount(t, s, -1, 0, api.ErrSyntax)
			checkParse(t, "-"+s, 0, api.ErrSyntax)
			if place > 0 || fault != "-" {
				checkParse(t, s, 0, api.ErrSyntax)
			}
		}
	}
	checkParse(t, strings.Repeat("9", 1<<20)+"x", 0, api.ErrSyntax)
	checkParse(t, "-99999999999999999999x", 0, api.ErrSyntax)
}

// P6.1: Count.

func TestCount(t *testing.T) {
	for _, c := range []struct {
		s       string
		most, n int64
		e       api.Errno
	}{
		{"0", 0, 0, api.OK},
		{"1", 0, 0, api.ErrNumber},
		{"0", -1, 0, api.ErrNumber},
		{"0", math.MinInt64, 0, api.ErrNumber},
		{"5", 5, 5, api.OK},
		{"4", 5, 4, api.OK},
		{"6", 5, 0, api.ErrNumber},
		{"10", 9, 0, api.ErrNumber},
		{"10", 10, 10, api.OK},
		{"9", 10, 9, api.OK},
		{"-5", 9, 0, api.ErrSyntax},
		{"-1", 5, 0, api.ErrSyntax},
		{"-1", -1, 0, api.ErrSyntax},
		{"-1", -2, 0, api.ErrSyntax},
		{"-1", 0, 0, api.ErrSyntax},
		{"-9223372036854775808", math.MinInt64, 0, api.ErrSyntax},
		{"4096", 4096, 4096, api.OK},
		{"4097", 4096, 0, api.ErrNumber},
		{"9223372036854775807", math.MaxInt64, math.MaxInt64, api.OK},
		{"9223372036854775807", math.MaxInt64 - 1, 0, api.ErrNumber},
		{"9223372036854775806", math.MaxInt64 - 1, math.MaxInt64 - 1, api.OK},
		{"9223372036854775808", math.MaxInt64, 0, api.ErrNumber},
		{"9223372036854775808", math.MinInt64, 0, api.ErrNumber},
		{"18446744073709551615", -1, 0, api.ErrNumber},
		{"18446744073709551616", 0, 0, api.ErrNumber},
		{"99999999999999999999", 1 << 62, 0, api.ErrNumber},
	} {
		checkCount(t, c.s, c.most, c.n, c.e)
	}
}

func TestCountAroundEachMost(t *testing.T) {
	for _, most := range bounds() {
		for off := int64(-12); off <= 12; off++ {
			s := new(big.Int).Add(big.NewInt(most), big.NewInt(off)).String()
			n, e := counts(s, most)
			checkCount(t, s, most, n, e)
		}
		for _, other := range bounds() {
			s := strconv.FormatInt(other, 10)
			n, e := counts(s, most)
			checkCount(t, s, most, n, e)
		}
	}
	for most := int64(-3); most <= 120; most++ {
		for n := int64(-3); n <= 1100; n++ {
			want, e := counts(strconv.FormatInt(n, 10), most)
			checkCount(t, strconv.FormatInt(n, 10), most, want, e)
		}
	}
}

// P6.2: each number has one text.

// numbers are of every length, those at which the digits or the bits grow by
// one and their neighbours among them.
func numbers() []int64 {
	list := []int64{0, math.MaxInt64, math.MinInt64}
	for bit := range 64 {
		for off := int64(-3); off <= 3; off++ {
			list = append(list, 1<<bit+off, -1<<bit+off, 0x0123456789abcdef>>bit+off)
		}
	}
	ten := int64(1)
	for range 18 {
		ten *= 10
		for off := int64(-3); off <= 3; off++ {
			list = append(list, ten+off, -ten+off, ten*9+off, -ten*9+off, ten/9+off, -ten/9+off)
		}
	}
	for n := int64(-1200); n <= 1200; n++ {
		list = append(list, n)
	}
	return list
}

func TestParseOfPrint(t *testing.T) {
	lengths := map[int]bool{}
	texts := map[string]int64{}
	for _, n := range numbers() {
		s := Print(n)
		if s != strconv.FormatInt(n, 10) {
			t.Errorf("Print(%d) = %q", n, s)
		}
		if other, ok := texts[s]; ok && other != n {
			t.Errorf("%d and %d have one text, %q", n, other, s)
		}
		texts[s] = n
		digits := len(strings.TrimPrefix(s, "-"))
		if n < 0 {
			digits = -digits
		}
		lengths[digits] = true
		checkParse(t, s, n, api.OK)
		if n >= 0 {
			checkCount(t, s, n, n, api.OK)
			checkCount(t, s, math.MaxInt64, n, api.OK)
			checkCount(t, s, n-1, 0, api.ErrNumber)
		} else {
			checkCount(t, s, math.MaxInt64, 0, api.ErrSyntax)
		}
	}
	for digits := 1; digits <= 19; digits++ {
		if !lengths[digits] || !lengths[-digits] {
			t.Errorf("no number of %d digits was printed, or none below 0", digits)
		}
	}
}

// P6.2: each text that isn't refused has one number.

// eachText hands over every text of at most most of the signs.
func eachText(signs string, most int, tell func(string)) {
	var from func(string)
	from = func(s string) {
		tell(s)
		if len(s) == most {
			return
		}
		for i := range len(signs) {
			from(s + signs[i:i+1])
		}
	}
	from("")
}

func TestPrintOfParse(t *testing.T) {
	taken := map[int64]string{}
	eachText("-0129+ x/:\xff", 5, func(s string) {
		n, e := Parse(s)
		if want, wantE := parsed(s); n != want || e != wantE {
			t.Fatalf("Parse(%q) = %d, %d, want %d, %d", s, n, e, want, wantE)
		}
		if e != api.OK {
			return
		}
		if again := Print(n); again != s {
			t.Errorf("%q is parsed as %d, whose text is %q", s, n, again)
		}
		if other, ok := taken[n]; ok {
			t.Errorf("%q and %q are both %d", s, other, n)
		}
		taken[n] = s
	})
	// 0, and one to five digits of 0, 1, 2 and 9 that begin with no nought, with
	// a - only the first four.
	if want := 1 + 3*(1+4+16+64+256) + 3*(1+4+16+64); len(taken) != want {
		t.Errorf("%d texts were taken, want %d", len(taken), want)
	}
}

func TestPrintOfCount(t *testing.T) {
	taken := 0
	eachText("-0129+ x/:\xff", 4, func(s string) {
		for _, most := range []int64{-1, 0, 1, 20, 999, math.MaxInt64} {
			n, e := Count(s, most)
			if want, wantE := counts(s, most); n != want || e != wantE {
				t.Fatalf("Count(%q, %d) = %d, %d, want %d, %d", s, most, n, e, want, wantE)
			}
			if e != api.OK {
				continue
			}
			taken++
			if again := Print(n); again != s || n < 0 || n > most {
				t.Errorf("Count(%q, %d) = %d, whose text is %q", s, most, n, again)
			}
		}
	})
	if taken == 0 {
		t.Error("no text was taken")
	}
}

func FuzzParse(f *testing.F) {
	for _, s := range noTexts() {
		f.Add(s, int64(9))
	}
	for _, n := range bounds() {
		f.Add(strconv.FormatInt(n, 10), n)
	}
	f.Add("9223372036854775808", int64(math.MaxInt64))
	f.Add("-9223372036854775809", int64(math.MinInt64))
	f.Add("18446744073709551616", int64(0))
	f.Fuzz(func(t *testing.T, s string, n int64) {
		want, e := parsed(s)
		checkParse(t, s, want, e)
		want, e = counts(s, n)
		checkCount(t, s, n, want, e)
		checkParse(t, Print(n), n, api.OK)
	})
}

// R5: neither calls ahead of it nor their errors are told by a later call.
func TestAnswersHangOnNothingElse(t *testing.T) {
	for _, wrong := range []string{"", "x", "-0", "9223372036854775808", "-9223372036854775809", strings.Repeat("9", 100)} {
		Parse(wrong)
		checkParse(t, "12", 12, api.OK)
		Count(wrong, 5)
		checkCount(t, "12", 12, 12, api.OK)
		checkCount(t, "13", 12, 0, api.ErrNumber)
		if s := Print(-12); s != "-12" {
			t.Errorf("Print(-12) = %q", s)
		}
	}
}

// R1: what reads gives up by a panic, and none of it is left where it was called,
// within a panic of the caller's own either.
func TestNoPanicComesOut(t *testing.T) {
	defer func() {
		if r := recover(); r != "the caller's own" {
			t.Errorf("a panic with %v came out", r)
		}
	}()
	defer func() {
		checkParse(t, "x", 0, api.ErrSyntax)
		checkCount(t, "6", 5, 0, api.ErrNumber)
		checkParse(t, "5", 5, api.OK)
	}()
	panic("the caller's own")
}
