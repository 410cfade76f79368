package value

import (
	"math"
	"math/big"
	"math/rand"
	"regexp"
	"slices"
	"strconv"
	"strings"
	"testing"

	"incognito/api"
)

// What the chapter says, in its own words and by the library.

var wordForm = regexp.MustCompile(`\A[a-z][a-z0-9_]{0,39}\z`)

// printed is the text of v; false: v isn't right.
func printed(v api.Value) (string, bool) {
	switch {
	case v.Kind == 0 && v.N == 0 && v.S == "":
		return "~", true
	case v.Kind == 1 && v.S == "":
		return strconv.FormatInt(v.N, 10), true
	case v.Kind == 2 && v.N == 0 && wordForm.MatchString(v.S):
		return v.S, true
	case v.Kind == 3 && v.N == 0 && v.S == "":
		return "F", true
	case v.Kind == 3 && v.N == 1 && v.S == "":
		return "T", true
	}
	return "", false
}

// parsed is what Parse is to answer.
func parsed(s string) (api.Value, api.Errno) {
	switch {
	case s == "~":
		return api.Value{}, api.OK
	case s == "T":
		return api.Value{Kind: 3, N: 1}, api.OK
	case s == "F":
		return api.Value{Kind: 3}, api.OK
	case wordForm.MatchString(s):
		return api.Value{Kind: 2, S: s}, api.OK
	}
	n, ok := new(big.Int).SetString(s, 10)
	switch {
	case !ok || n.String() != s:
		return api.Value{}, api.ErrSyntax
	case !n.IsInt64():
		return api.Value{}, api.ErrNumber
	}
	return api.Value{Kind: 1, N: n.Int64()}, api.OK
}

// textOrder holds a and b against each other byte by byte.
func textOrder(a, b string) int {
	for i := 0; ; i++ {
		switch {
		case i == len(a) && i == len(b):
			return 0
		case i == len(a):
			return -1
		case i == len(b):
			return 1
		case a[i] < b[i]:
			return -1
		case a[i] > b[i]:
			return 1
		}
	}
}

// ordered is what Compare is to answer.
func ordered(a, b api.Value) int {
	switch {
	case a.Kind < b.Kind:
		return -1
	case a.Kind > b.Kind:
		return 1
	case a.N < b.N:
		return -1
	case a.N > b.N:
		return 1
	}
	return textOrder(a.S, b.S)
}

func isInt(n int64) api.Value   { return api.Value{Kind: api.Int, N: n} }
func isWord(s string) api.Value { return api.Value{Kind: api.Word, S: s} }
func isBool(n int64) api.Value  { return api.Value{Kind: api.Bool, N: n} }

func letters(many int) string { return strings.Repeat("a", many) }

func checkWord(t *testing.T, s string, want bool) {
	t.Helper()
	if IsWord(s) != want {
		t.Errorf("IsWord(%q) = %v", s, !want)
	}
	if wordForm.MatchString(s) != want {
		t.Errorf("the test takes %q wrongly", s)
	}
}

// checkValue holds Right and Print against what they are to answer.
func checkValue(t *testing.T, v api.Value) {
	t.Helper()
	text, right := printed(v)
	if Right(v) != right {
		t.Errorf("Right(%#v) = %v", v, !right)
	}
	if s := Print(v); s != text {
		t.Errorf("Print(%#v) = %q, want %q", v, s, text)
	}
}

func checkParse(t *testing.T, s string, want api.Value, wantE api.Errno) {
	t.Helper()
	if v, e := Parse(s); v != want || e != wantE {
		t.Errorf("Parse(%.80q) = %#v, %d, want %#v, %d", s, v, e, want, wantE)
	}
}

func checkCompare(t *testing.T, a, b api.Value, want int) {
	t.Helper()
	if got := Compare(a, b); got != want {
		t.Errorf("Compare(%#v, %#v) = %d, want %d", a, b, got, want)
	}
	if got := Compare(b, a); got != -want {
		t.Errorf("Compare(%#v, %#v) = %d, want %d", b, a, got, -want)
	}
}

// P7.1: IsWord.

func TestIsWord(t *testing.T) {
	for _, s := range []string{
		"a", "z", "m", "aa", "a0", "a9", "a_", "a__", "z_9", "alice_2", "t1", "t", "f", "true", "e10", "x0f", "nan", "inf",
		letters(39), letters(40), "a" + strings.Repeat("0", 39), "a" + strings.Repeat("_", 39), strings.Repeat("z9_", 13) + "q",
	} {
		checkWord(t, s, true)
	}
	for _, s := range []string{
		"", "0", "9", "_", "A", "Z", "0a", "9a", "1t", "_a", "__", "Aa", "Ta", "-a", "~", "~a", " ", " a",
		"a ", "a b", "a-", "a-b", "a~", "a.", "aA", "abC", "aZ9", "a\n", "a\x00", "a\t", "a/", "a:", "a@", "a[", "a`", "a{", "a^", "a;",
		"é", "aé", "ａ", "aａ", "ß", "aı", "a\xff", "\xff", "a\xe1", "\xe1", "a\u0661", "a١", "а", "aа",
		letters(41), letters(42), letters(80), letters(1000), "a" + strings.Repeat("0", 40), letters(39) + "A", letters(39) + " ", letters(40) + " ", letters(40) + "\n",
		"_" + letters(39), "0" + letters(39), strings.Repeat("é", 20), letters(39) + "é",
		letters(256 + 1), letters(256 + 40), letters(1<<16 + 5), letters(1<<20 + 1),
	} {
		checkWord(t, s, false)
	}
}

// Each byte first, in the middle and last, in words of each length around the edges.
func TestEveryByteOfAWord(t *testing.T) {
	for c := range 256 {
		b := string([]byte{byte(c)})
		small := c >= 'a' && c <= 'z'
		behind := small || c >= '0' && c <= '9' || c == '_'
		checkWord(t, b, small)
		for _, more := range []int{1, 2, 20, 39} {
			checkWord(t, b+letters(more), small)
			checkWord(t, letters(more)+b, behind)
			checkWord(t, b+b+letters(more-1), small)
		}
		for place := 1; place < 40; place++ {
			checkWord(t, letters(place)+b+letters(39-place), behind)
			checkWord(t, letters(place)+b+letters(40-place), false)
		}
	}
}

func TestWordsOfEachLength(t *testing.T) {
	for many := range 300 {
		checkWord(t, letters(many), many >= 1 && many <= 40)
	}
	if api.MaxWord != 40 {
		t.Errorf("MaxWord is %d", api.MaxWord)
	}
}

// P7.1: Right and Print.

func TestRightAndPrint(t *testing.T) {
	for _, c := range []struct {
		v    api.Value
		text string
	}{
		{api.Value{}, "~"},
		{isInt(0), "0"},
		{isInt(7), "7"},
		{isInt(-12), "-12"},
		{isInt(math.MaxInt64), "9223372036854775807"},
		{isInt(math.MinInt64), "-9223372036854775808"},
		{isWord("a"), "a"},
		{isWord("alice_2"), "alice_2"},
		{isWord("t"), "t"},
		{isWord(letters(40)), letters(40)},
		{isBool(0), "F"},
		{isBool(1), "T"},
	} {
		if !Right(c.v) {
			t.Errorf("%#v isn't right", c.v)
		}
		if s := Print(c.v); s != c.text {
			t.Errorf("Print(%#v) = %q, want %q", c.v, s, c.text)
		}
		checkValue(t, c.v)
	}
}

func TestNotRight(t *testing.T) {
	for _, v := range []api.Value{
		{N: 1}, {N: -1}, {S: "a"}, {S: "~"}, {N: 5, S: "a"}, {N: math.MinInt64}, {S: "\x00"},
		{Kind: api.Int, S: "a"}, {Kind: api.Int, N: 5, S: "a"}, {Kind: api.Int, N: 5, S: "5"}, {Kind: api.Int, S: "0"}, {Kind: api.Int, N: math.MinInt64, S: "_"},
		{Kind: api.Word}, {Kind: api.Word, N: 1}, {Kind: api.Word, N: 1, S: "a"}, {Kind: api.Word, N: -1, S: "a"}, {Kind: api.Word, N: math.MinInt64, S: "a"},
		{Kind: api.Word, S: "A"}, {Kind: api.Word, S: "T"}, {Kind: api.Word, S: "F"}, {Kind: api.Word, S: "~"}, {Kind: api.Word, S: "1"}, {Kind: api.Word, S: "1a"},
		{Kind: api.Word, S: "_a"}, {Kind: api.Word, S: "a b"}, {Kind: api.Word, S: "a\n"}, {Kind: api.Word, S: "-1"}, {Kind: api.Word, S: letters(41)}, {Kind: api.Word, S: " a"},
		{Kind: api.Bool, N: 2}, {Kind: api.Bool, N: -1}, {Kind: api.Bool, N: 1 << 8}, {Kind: api.Bool, N: 1 << 32}, {Kind: api.Bool, N: 1<<32 + 1}, {Kind: api.Bool, N: math.MaxInt64}, {Kind: api.Bool, N: math.MinInt64},
		{Kind: api.Bool, S: "a"}, {Kind: api.Bool, N: 1, S: "T"}, {Kind: api.Bool, N: 0, S: "F"}, {Kind: api.Bool, N: 1, S: "yes"},
		{Kind: 4}, {Kind: 4, N: 1}, {Kind: 4, S: "a"}, {Kind: 5}, {Kind: -1}, {Kind: -1, N: 1}, {Kind: -2, S: "a"}, {Kind: -3, N: 1},
		{Kind: math.MaxInt}, {Kind: math.MinInt}, {Kind: 256}, {Kind: 257, N: 1}, {Kind: 1 << 32}, {Kind: 1<<32 + 1},
	} {
		if Right(v) {
			t.Errorf("%#v is right", v)
		}
		if s := Print(v); s != "" {
			t.Errorf("Print(%#v) = %q", v, s)
		}
		checkValue(t, v)
	}
}

// someValues are values of each Kind, of those below 0 and above 3 too, with
// each number and text: right ones and others.
func someValues() []api.Value {
	var list []api.Value
	for _, kind := range []int{math.MinInt, -4, -2, -1, 0, 1, 2, 3, 4, 5, 258, math.MaxInt} {
		for _, n := range []int64{math.MinInt64, -1 << 32, -10, -2, -1, 0, 1, 2, 10, 1 << 32, math.MaxInt64} {
			for _, s := range []string{"", "a", "aa", "ab", "b", "a0", "a_", "z", "A", "T", "F", "~", "0", "1", "_", "\x00", "\xff", "a\x00", "a\xff", "é", letters(40), letters(41), letters(39) + "b"} {
				list = append(list, api.Value{Kind: kind, N: n, S: s})
			}
		}
	}
	return list
}

func TestRightAndPrintOfEachKind(t *testing.T) {
	right := 0
	for _, v := range someValues() {
		checkValue(t, v)
		if Right(v) {
			right++
		}
	}
	// Nothing, eleven numbers, nine words, yes and no.
	if right != 1+11+9+2 {
		t.Errorf("%d values are right", right)
	}
}

// P7.1: Parse.

func TestParse(t *testing.T) {
	for _, c := range []struct {
		s string
		v api.Value
	}{
		{"~", api.Value{}},
		{"T", isBool(1)},
		{"F", isBool(0)},
		{"t", isWord("t")},
		{"f", isWord("f")},
		{"t1", isWord("t1")},
		{"a", isWord("a")},
		{"z9_", isWord("z9_")},
		{"e5", isWord("e5")},
		{"alice_2", isWord("alice_2")},
		{letters(40), isWord(letters(40))},
		{"0", isInt(0)},
		{"1", isInt(1)},
		{"-1", isInt(-1)},
		{"-12", isInt(-12)},
		{"10", isInt(10)},
		{"1000000", isInt(1000000)},
		{"9223372036854775806", isInt(math.MaxInt64 - 1)},
		{"9223372036854775807", isInt(math.MaxInt64)},
		{"-9223372036854775807", isInt(math.MinInt64 + 1)},
		{"-9223372036854775808", isInt(math.MinInt64)},
	} {
		checkParse(t, c.s, c.v, api.OK)
		if v, e := parsed(c.s); v != c.v || e != api.OK {
			t.Errorf("the test takes %q wrongly", c.s)
		}
	}
}

// noTexts are the texts of no value and of no number.
func noTexts() []string {
	return []string{
		"", " ", "~~", "~ ", " ~", "~a", "~1", "~T", "a~", "1~", "-~", "~\n", "~\x00",
		"TT", "FF", "TF", "FT", "T1", "F0", "Ta", "Fa", "T_", "True", "False", "TRUE", "T ", " T", "F ", " F", "T~", "-T", "1T", "T\n", "F\x00",
		"A", "Z", "N", "Alice", "alicE", "_a", "_", "__", "a b", "a-", "a-b", "a.b", "a ", " a", "a\n", "é", "aé", "a\xff", "\xff", "\x00", "a\x00",
		letters(41), letters(400), letters(40) + "_", "_" + letters(40),
		"-", "--", "-0", "-00", "00", "01", "007", "-01", "00000000000000000000", "099999999999999999999", "-099999999999999999999", "-000000000000000000001",
		"1a", "1t", "0a", "0x1", "1_0", "1e3", "12ab", "-1a", "-a", "9223372036854775807a", "9223372036854775808a", "99999999999999999999x", "-99999999999999999999x", "99999999999999999999 ",
		"+", "+1", "1-", "1-1", "--1", "1.0", "1,0", " 1", "1 ", "1\n", "１", "٣", "-٣", "−1",
		"nothing ", "[]", "\"a\"", "a,b", ";", "a;b", "/",
	}
}

func TestTextsOfNoValue(t *testing.T) {
	for _, s := range noTexts() {
		checkParse(t, s, api.Value{}, api.ErrSyntax)
		if _, e := parsed(s); e != api.ErrSyntax {
			t.Errorf("the test takes %q wrongly", s)
		}
	}
}

func TestNumbersThatAreTooGreat(t *testing.T) {
	for _, s := range []string{
		"9223372036854775808", "9223372036854775809", "-9223372036854775809", "-9223372036854775810",
		"18446744073709551615", "18446744073709551616", "18446744073709551617", "-18446744073709551616",
		"10000000000000000000", "-10000000000000000000", "99999999999999999999", "-99999999999999999999",
		strings.Repeat("9", 40), strings.Repeat("9", 41), "-" + strings.Repeat("9", 41), strings.Repeat("1", 1000), "-1" + strings.Repeat("0", 1<<16),
	} {
		checkParse(t, s, api.Value{}, api.ErrNumber)
		checkParse(t, "0"+s, api.Value{}, api.ErrSyntax)
		checkParse(t, s+"a", api.Value{}, api.ErrSyntax)
		checkParse(t, s+"~", api.Value{}, api.ErrSyntax)
		checkParse(t, s+"-", api.Value{}, api.ErrSyntax)
	}
}

// Each byte by itself, and ahead of and behind texts of each kind.
func TestParseOfEveryByte(t *testing.T) {
	for c := range 256 {
		b := string([]byte{byte(c)})
		for _, with := range []string{"", "~", "T", "F", "a", "5", "-", "-5", "0", "9223372036854775807", letters(39), letters(40)} {
			for _, s := range []string{b + with, with + b, with + b + with} {
				v, e := parsed(s)
				checkParse(t, s, v, e)
			}
		}
	}
}

// P7.2: Compare.

func TestCompare(t *testing.T) {
	for _, c := range []struct {
		a, b api.Value
		want int
	}{
		{api.Value{}, api.Value{}, 0},
		{isInt(5), isInt(5), 0},
		{isWord("a"), isWord("a"), 0},
		{isBool(1), isBool(1), 0},
		// by Kind, whatever the others are
		{api.Value{}, isInt(0), -1},
		{api.Value{}, isInt(-1), -1},
		{api.Value{}, isInt(math.MinInt64), -1},
		{isInt(5), isWord("a"), -1},
		{isInt(math.MaxInt64), isWord("a"), -1},
		{isWord("z"), isBool(0), -1},
		{isWord("z"), isBool(1), -1},
		{api.Value{}, isBool(0), -1},
		{api.Value{Kind: -1}, api.Value{}, -1},
		{api.Value{Kind: -2, N: 9, S: "z"}, api.Value{Kind: -1, N: -9}, -1},
		{api.Value{Kind: math.MinInt}, api.Value{Kind: math.MaxInt}, -1},
		{isBool(1), api.Value{Kind: 4}, -1},
		{api.Value{Kind: 4, N: 9, S: "z"}, api.Value{Kind: 5, N: -9}, -1},
		// by N
		{isInt(-1), isInt(0), -1},
		{isInt(9), isInt(10), -1},
		{isInt(-10), isInt(-9), -1},
		{isInt(math.MinInt64), isInt(math.MaxInt64), -1},
		{isInt(math.MinInt64), isInt(0), -1},
		{isInt(-1), isInt(math.MaxInt64), -1},
		{isBool(0), isBool(1), -1},
		{api.Value{Kind: api.Word, N: 1, S: "z"}, api.Value{Kind: api.Word, N: 2, S: "a"}, -1},
		{isWord("z"), api.Value{Kind: api.Word, N: 1, S: "a"}, -1},
		{api.Value{N: -1}, api.Value{}, -1},
		{api.Value{Kind: 7, N: 1}, api.Value{Kind: 7, N: 2}, -1},
		// by S alone
		{isWord("a"), isWord("b"), -1},
		{isWord("a"), isWord("aa"), -1},
		{isWord("a9"), isWord("aa"), -1},
		{isWord("a9"), isWord("a_"), -1},
		{isWord("a_"), isWord("aa"), -1},
		{isWord("a10"), isWord("a9"), -1},
		{isWord("aa"), isWord("b"), -1},
		{isWord("ab"), isWord("b"), -1},
		{isWord("item"), isWord("items"), -1},
		{isWord(letters(39)), isWord(letters(40)), -1},
		{api.Value{Kind: api.Word}, isWord("a"), -1},
		{api.Value{Kind: api.Word}, api.Value{Kind: api.Word, S: "\x00"}, -1},
		{api.Value{Kind: api.Word, S: "Z"}, isWord("a"), -1},
		{api.Value{Kind: api.Word, S: "a"}, api.Value{Kind: api.Word, S: "a\x00"}, -1},
		{api.Value{Kind: api.Word, S: "z"}, api.Value{Kind: api.Word, S: "\x80"}, -1},
		{api.Value{Kind: api.Word, S: "\x7f"}, api.Value{Kind: api.Word, S: "\xff"}, -1},
		{api.Value{Kind: api.Word, S: "é"}, api.Value{Kind: api.Word, S: "\xff"}, -1},
		{api.Value{Kind: api.Int, N: 5}, api.Value{Kind: api.Int, N: 5, S: "a"}, -1},
		{api.Value{Kind: api.Int, N: 5, S: "a"}, api.Value{Kind: api.Int, N: 5, S: "b"}, -1},
		{api.Value{S: "a"}, api.Value{S: "b"}, -1},
		{api.Value{Kind: 4, S: "a"}, api.Value{Kind: 4, S: "a"}, 0},
	} {
		checkCompare(t, c.a, c.b, c.want)
		if ordered(c.a, c.b) != c.want {
			t.Errorf("the test orders %#v and %#v wrongly", c.a, c.b)
		}
	}
}

func TestCompareOfAnyTwo(t *testing.T) {
	list := someValues()
	for _, a := range list {
		for _, b := range list {
			if got := Compare(a, b); got != ordered(a, b) {
				t.Fatalf("Compare(%#v, %#v) = %d, want %d", a, b, got, ordered(a, b))
			}
		}
	}
}

// P7.2: Sort.

// sortedByHand answers the values in order, by putting each where it belongs.
func sortedByHand(l []api.Value) []api.Value {
	var out []api.Value
	for _, v := range l {
		at := 0
		for at < len(out) && ordered(out[at], v) <= 0 {
			at++
		}
		out = slices.Insert(out, at, v)
	}
	return out
}

func checkSort(t *testing.T, l []api.Value) {
	t.Helper()
	handed := slices.Clone(l)
	got := Sort(handed...)
	if !slices.Equal(handed, l) {
		t.Errorf("Sort changed %#v to %#v", l, handed)
	}
	if want := sortedByHand(l); !slices.Equal(got, want) {
		t.Errorf("Sort(%#v) = %#v, want %#v", l, got, want)
	}
}

func TestSort(t *testing.T) {
	if l := Sort(); len(l) != 0 {
		t.Errorf("Sort() = %#v", l)
	}
	if l := Sort(nil...); len(l) != 0 {
		t.Errorf("Sort(nil...) = %#v", l)
	}
	if l := Sort([]api.Value{}...); len(l) != 0 {
		t.Errorf("Sort of an empty list = %#v", l)
	}
	if l := Sort(isWord("a")); !slices.Equal(l, []api.Value{isWord("a")}) {
		t.Errorf("Sort(a) = %#v", l)
	}
	wrong := api.Value{Kind: -1, S: "z"}
	got := Sort(isBool(1), isWord("b"), isInt(10), api.Value{}, isWord("ab"), isInt(9), wrong, isInt(-1), isBool(0), isWord("a"), isInt(10), api.Value{})
	want := []api.Value{wrong, {}, {}, isInt(-1), isInt(9), isInt(10), isInt(10), isWord("a"), isWord("ab"), isWord("b"), isBool(0), isBool(1)}
	if !slices.Equal(got, want) {
		t.Errorf("Sort = %#v, want %#v", got, want)
	}
}

// Every list of at most five of these, so that each may occur up to five times.
func TestSortOfEveryShortList(t *testing.T) {
	from := []api.Value{{}, isInt(-3), isInt(4), isWord("a"), isWord("ab"), isBool(1), {Kind: 4, N: -9, S: "a"}}
	var all func(l []api.Value)
	all = func(l []api.Value) {
		checkSort(t, l)
		if len(l) == 5 {
			return
		}
		for _, v := range from {
			all(append(slices.Clone(l), v))
		}
	}
	all(nil)
}

func TestSortOfLongLists(t *testing.T) {
	r := rand.New(rand.NewSource(7))
	list := someValues()
	for _, many := range []int{6, 12, 13, 50, 100, 1000} {
		for range 5 {
			l := make([]api.Value, many)
			for i := range l {
				l[i] = list[r.Intn(len(list))]
			}
			checkSort(t, l)
			checkSort(t, sortedByHand(l))
			back := sortedByHand(l)
			slices.Reverse(back)
			checkSort(t, back)
			checkSort(t, slices.Repeat(l[:1], many))
		}
	}
}

// R4: what is handed in isn't changed and isn't kept, spare room included, and
// what is answered is new.
func TestSortKeepsNothing(t *testing.T) {
	for many := range 20 {
		room := make([]api.Value, many+5)
		for i := range room {
			room[i] = isInt(int64(-i))
		}
		before := slices.Clone(room)
		got := Sort(room[:many]...)
		again := Sort(room[:many]...)
		want := slices.Clone(got)
		for i := range got[:cap(got)] {
			got[:cap(got)][i] = isWord("other")
		}
		if !slices.Equal(room, before) {
			t.Fatalf("what was handed in to Sort has changed to %#v", room)
		}
		if !slices.Equal(again, want) {
			t.Fatalf("an answer of Sort shares memory with another one")
		}
		for i := range room {
			room[i] = isBool(1)
		}
		if !slices.Equal(again, want) {
			t.Fatalf("an answer of Sort shares memory with what was handed in")
		}
		for i := range again[:cap(again)] {
			again[:cap(again)][i] = isBool(0)
		}
		for i := range room {
			if room[i] != isBool(1) {
				t.Fatalf("an answer's spare room is what was handed in")
			}
		}
	}
}

// P7.3: each right value has one text.

// rightValues are right ones of every Kind.
func rightValues() []api.Value {
	list := []api.Value{{}, isBool(0), isBool(1), isInt(0)}
	for bit := range 64 {
		for off := int64(-2); off <= 2; off++ {
			list = append(list, isInt(1<<bit+off), isInt(-1<<bit+off))
		}
	}
	for n := int64(-300); n <= 300; n++ {
		list = append(list, isInt(n))
	}
	for many := 1; many <= 40; many++ {
		for _, last := range []string{"a", "z", "0", "9", "_", "t", "f"} {
			if s := letters(many-1) + last; wordForm.MatchString(s) {
				list = append(list, isWord(s))
			}
		}
	}
	eachText("abtf019_", 4, func(s string) {
		if wordForm.MatchString(s) {
			list = append(list, isWord(s))
		}
	})
	slices.SortFunc(list, ordered)
	return slices.Compact(list)
}

// eachText hands over every text of at most most of the signs.
func eachText(signs string, most int, tell func(string)) {
	var from func(string)
	from = func(s string) {
		tell(s)
		if len(s) == most {
			return
		}
		for i := range len(signs) {
			from(s + signs[i:i+1])
		}
	}
	from("")
}

func TestParseOfPrint(t *testing.T) {
	texts := map[string]api.Value{}
	kinds := map[int]int{}
	for _, v := range rightValues() {
		if !Right(v) {
			t.Errorf("%#v isn't right", v)
		}
		kinds[v.Kind]++
		s := Print(v)
		if other, ok := texts[s]; ok {
			t.Errorf("%#v and %#v have one text, %q", v, other, s)
		}
		texts[s] = v
		checkParse(t, s, v, api.OK)
	}
	if kinds[api.None] != 1 || kinds[api.Bool] != 2 || kinds[api.Int] < 600 || kinds[api.Word] < 1000 {
		t.Errorf("values of each Kind: %v", kinds)
	}
}

func TestPrintOfParse(t *testing.T) {
	taken := map[api.Value]string{}
	eachText("~TFAaz-019_ +\xff", 5, func(s string) {
		v, e := Parse(s)
		if want, wantE := parsed(s); v != want || e != wantE {
			t.Fatalf("Parse(%q) = %#v, %d, want %#v, %d", s, v, e, want, wantE)
		}
		if e != api.OK {
			return
		}
		if !Right(v) {
			t.Errorf("%q is parsed as %#v, which isn't right", s, v)
		}
		if again := Print(v); again != s {
			t.Errorf("%q is parsed as %#v, whose text is %q", s, v, again)
		}
		if other, ok := taken[v]; ok {
			t.Errorf("%q and %q are both %#v", s, other, v)
		}
		taken[v] = s
	})
	// ~, T and F; words of a and z with a, z, 0, 1, 9 and _ behind; 0 and numbers
	// of 1 and 9 with 0, 1 and 9 behind, below 0 of one digit less.
	if want := 3 + 2*(1+6+36+216+1296) + 1 + 2*(1+3+9+27+81) + 2*(1+3+9+27); len(taken) != want {
		t.Errorf("%d texts were taken, want %d", len(taken), want)
	}
}

// P7.3: of two unlike ones just one is ahead.

func TestJustOneIsAhead(t *testing.T) {
	list := someValues()
	for i, a := range list {
		for _, b := range list[:i] {
			one, other := Compare(a, b), Compare(b, a)
			if a == b || one+other != 0 || one*other != -1 {
				t.Fatalf("%#v and %#v are unlike: %d and %d", a, b, one, other)
			}
		}
		if Compare(a, a) != 0 {
			t.Fatalf("%#v is not the same as itself", a)
		}
	}
}

// What is ahead of one that is ahead of a third is ahead of that.
func TestTheOrderIsOne(t *testing.T) {
	r := rand.New(rand.NewSource(11))
	list := someValues()
	for range 200000 {
		a, b, c := list[r.Intn(len(list))], list[r.Intn(len(list))], list[r.Intn(len(list))]
		if Compare(a, b) < 0 && Compare(b, c) < 0 && Compare(a, c) != -1 {
			t.Fatalf("%#v, %#v, %#v go round", a, b, c)
		}
	}
}

func FuzzValue(f *testing.F) {
	for _, s := range noTexts() {
		f.Add(2, int64(0), s, 1, int64(5), "a")
	}
	for _, v := range []api.Value{{}, isInt(-1), isWord("alice_2"), isBool(0), isBool(1), {Kind: 4}, {Kind: -1, N: 1, S: "z"}} {
		f.Add(v.Kind, v.N, v.S, v.Kind, v.N, v.S+"a")
	}
	f.Add(1, int64(math.MaxInt64), "9223372036854775808", 3, int64(2), "-9223372036854775809")
	f.Fuzz(func(t *testing.T, k1 int, n1 int64, s1 string, k2 int, n2 int64, s2 string) {
		a, b := api.Value{Kind: k1, N: n1, S: s1}, api.Value{Kind: k2, N: n2, S: s2}
		checkValue(t, a)
		checkWord(t, s1, wordForm.MatchString(s1))
		v, e := parsed(s1)
		checkParse(t, s1, v, e)
		checkCompare(t, a, b, ordered(a, b))
		checkCompare(t, a, a, 0)
		checkSort(t, []api.Value{b, a, v, a, b})
		if Right(a) {
			checkParse(t, Print(a), a, api.OK)
		}
	})
}

// R5: neither calls ahead of it nor their errors are told by a later call.
func TestAnswersHangOnNothingElse(t *testing.T) {
	for _, wrong := range []string{"", "-0", "1a", "T1", letters(41), "9223372036854775808"} {
		Parse(wrong)
		Print(isWord(wrong))
		checkParse(t, "12", isInt(12), api.OK)
		checkParse(t, "T", isBool(1), api.OK)
		checkParse(t, "a", isWord("a"), api.OK)
		checkParse(t, "~", api.Value{}, api.OK)
		checkValue(t, isWord("a"))
	}
}
