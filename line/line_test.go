package line

import (
	"math/rand"
	"slices"
	"strings"
	"testing"

	"incognito/api"
)

// What the chapter says, byte by byte.

// splitted is what Split is to answer.
func splitted(text string) ([]string, api.Fail) {
	var list []string
	from := 0
	for i := range len(text) {
		if text[i] == 10 {
			list = append(list, text[from:i])
			from = i + 1
		}
	}
	if from < len(text) {
		return nil, api.Fail{Code: api.ErrSyntax, Line: len(list) + 1}
	}
	return list, api.Fail{}
}

// worded is what Words is to answer.
func worded(s string) ([]string, api.Errno) {
	var list []string
	word := []byte{}
	for i := range len(s) + 1 {
		switch {
		case i < len(s) && s[i] != 32:
			word = append(word, s[i])
		case len(word) == 0:
			return nil, api.ErrSyntax
		default:
			list = append(list, string(word))
			word = word[:0]
		}
	}
	return list, api.OK
}

// joined is what Join is to answer.
func joined(words []string) string {
	var b []byte
	for i, w := range words {
		if i > 0 {
			b = append(b, 32)
		}
		b = append(b, w...)
	}
	return string(b)
}

// answer is what Note answers.
type answer struct {
	head, note string
	noted      bool
	e          api.Errno
}

// noted is what Note is to answer.
func noted(s string) answer {
	for i := range len(s) {
		if s[i] != ';' {
			continue
		}
		if i == 0 || s[i-1] != 32 || len(s)-i-1 > 100 {
			return answer{e: api.ErrSyntax}
		}
		for j := i + 1; j < len(s); j++ {
			if s[j] == 10 {
				return answer{e: api.ErrSyntax}
			}
		}
		return answer{s[:i-1], s[i+1:], true, api.OK}
	}
	return answer{head: s}
}

func checkSplit(t *testing.T, text string, want []string, wantF api.Fail) {
	t.Helper()
	if l, f := Split(text); !slices.Equal(l, want) || f != wantF {
		t.Errorf("Split(%.80q) = %.80q, %v, want %.80q, %v", text, l, f, want, wantF)
	}
	if l, f := splitted(text); !slices.Equal(l, want) || f != wantF {
		t.Errorf("the test takes %.80q wrongly", text)
	}
}

func checkWords(t *testing.T, s string, want []string, wantE api.Errno) {
	t.Helper()
	if l, e := Words(s); !slices.Equal(l, want) || e != wantE {
		t.Errorf("Words(%.80q) = %.80q, %d, want %.80q, %d", s, l, e, want, wantE)
	}
	if l, e := worded(s); !slices.Equal(l, want) || e != wantE {
		t.Errorf("the test takes %.80q wrongly", s)
	}
}

func checkJoin(t *testing.T, words []string, want string) {
	t.Helper()
	if s := Join(words...); s != want {
		t.Errorf("Join(%.80q) = %.80q, want %.80q", words, s, want)
	}
	if joined(words) != want {
		t.Errorf("the test joins %.80q wrongly", words)
	}
}

func checkNote(t *testing.T, s string, want answer) {
	t.Helper()
	head, note, is, e := Note(s)
	if got := (answer{head, note, is, e}); got != want {
		t.Errorf("Note(%.120q) = %#v, want %#v", s, got, want)
	}
	if noted(s) != want {
		t.Errorf("the test takes %.120q wrongly", s)
	}
}

// many is so many of s, one behind the other.
func many(s string, times int) string { return strings.Repeat(s, times) }

// syntaxAt is the fault that Split tells.
func syntaxAt(line int) api.Fail { return api.Fail{Code: api.ErrSyntax, Line: line} }

// P8.1: Split.

func TestSplit(t *testing.T) {
	for _, c := range []struct {
		text string
		want []string
	}{
		{"", nil},
		{"\n", []string{""}},
		{"\n\n", []string{"", ""}},
		{"\n\n\n", []string{"", "", ""}},
		{"a\n", []string{"a"}},
		{"a b ;c\n", []string{"a b ;c"}},
		{"a\nb\n", []string{"a", "b"}},
		{"a\n\nb c\n", []string{"a", "", "b c"}},
		{"\na\n", []string{"", "a"}},
		{"a\n\n", []string{"a", ""}},
		{"\n\na\n\n\nb\n\n", []string{"", "", "a", "", "", "b", ""}},
		{"b\na\nb\nb\n", []string{"b", "a", "b", "b"}},
		{" \n", []string{" "}},
		{"  a  \n\t\n", []string{"  a  ", "\t"}},
		{"a\r\n", []string{"a\r"}},
		{"a\rb\n", []string{"a\rb"}},
		{"\r\n\r\n", []string{"\r", "\r"}},
		{"a\v\f\x00\x1e\n", []string{"a\v\f\x00\x1e"}},
		{"a\u0085b\u2028c\u2029\n", []string{"a\u0085b\u2028c\u2029"}}, // ends of other kinds
		{"\\n\n", []string{"\\n"}},
		{"Ċ\n", []string{"Ċ"}}, // a sign whose number ends like that of the byte 10
		{"é\xff\n\xff\n\xc3\n\xa9\n", []string{"é\xff", "\xff", "\xc3", "\xa9"}},
		{many("x", 100000) + "\n" + many("y", 70000) + "\n", []string{many("x", 100000), many("y", 70000)}},
	} {
		checkSplit(t, c.text, c.want, api.Fail{})
	}
}

func TestSplitOfATextWithoutAnEnd(t *testing.T) {
	for _, c := range []struct {
		text string
		line int
	}{
		{"a", 1},
		{"ab", 1},
		{" ", 1},
		{"\r", 1},
		{"\x00", 1},
		{"\u2028", 1},
		{"a;b c", 1},
		{"a\nb", 2},
		{"\na", 2},
		{"\n ", 2},
		{"\n\r", 2},
		{"a\n\nb", 3},
		{"\n\n\na", 4},
		{"a\nb\nc\nd\ne", 5},
		{"a\r\nb\r\nc\r", 3},
		{many("x", 100000), 1},
		{many("\n", 70000) + "x", 70001},
		{many("x\n", 4096) + "x", 4097},
		{many("xy\n", 300) + many("z", 1<<16), 301},
	} {
		checkSplit(t, c.text, nil, syntaxAt(c.line))
		// With its end it is so many lines.
		if l, f := Split(c.text + "\n"); f != (api.Fail{}) || len(l) != c.line {
			t.Errorf("Split(%.80q and an end) has %d lines, and the fault %v, want %d", c.text, len(l), f, c.line)
		}
	}
}

func TestSplitOfManyLines(t *testing.T) {
	for _, times := range []int{1, 2, 3, 10, 255, 256, 257, 4095, 4096, 4097, 100000} {
		checkSplit(t, many("\n", times), make([]string, times), api.Fail{})
		checkSplit(t, many("\n", times)+"a", nil, syntaxAt(times+1))
		checkSplit(t, many("ab c\n", times), slices.Repeat([]string{"ab c"}, times), api.Fail{})
		checkSplit(t, many("ab c\n", times)+"\n", append(slices.Repeat([]string{"ab c"}, times), ""), api.Fail{})
		checkSplit(t, many("ab c\n", times)+"d", nil, syntaxAt(times+1))
	}
}

// Each byte by itself, between ends and behind one: only 10 is an end.
func TestSplitOfEveryByte(t *testing.T) {
	for c := range 256 {
		b := string([]byte{byte(c)})
		for _, text := range []string{b, "a" + b, b + "a", b + "\n", "\n" + b, "a\n" + b + "\n", "a" + b + "c\n", b + b + "\n" + b} {
			want, f := splitted(text)
			checkSplit(t, text, want, f)
		}
		if c != 10 {
			checkSplit(t, "a"+b+"c\n"+b+"\n", []string{"a" + b + "c", b}, api.Fail{})
			checkSplit(t, "\n\n"+b, nil, syntaxAt(3))
		}
	}
}

// P8.1: Words.

func TestWords(t *testing.T) {
	for _, c := range []struct {
		s    string
		want []string
	}{
		{"a", []string{"a"}},
		{"ab", []string{"ab"}},
		{"a b", []string{"a", "b"}},
		{"a b c", []string{"a", "b", "c"}},
		{"b a b b", []string{"b", "a", "b", "b"}},
		{"5 alice invoke reg x write 7", []string{"5", "alice", "invoke", "reg", "x", "write", "7"}},
		{"~ -12 T ;x", []string{"~", "-12", "T", ";x"}},
		{"\t", []string{"\t"}},
		{"a b\tc", []string{"a", "b\tc"}},
		{"a\t b", []string{"a\t", "b"}},
		{"a\nb c\n", []string{"a\nb", "c\n"}},
		{"\n", []string{"\n"}},
		{"\x00 \r \v", []string{"\x00", "\r", "\v"}},
		{"a\u00a0b\u2003c\u3000d", []string{"a\u00a0b\u2003c\u3000d"}}, // blanks of other kinds
		{"Ġ", []string{"Ġ"}},                                           // a sign whose number ends like that of the blank
		{"é \xff \xc3 \xa9", []string{"é", "\xff", "\xc3", "\xa9"}},
		{many("x", 100000), []string{many("x", 100000)}},
		{many("x", 70000) + " " + many("y", 70001), []string{many("x", 70000), many("y", 70001)}},
		{many("ab ", 100000) + "c", append(slices.Repeat([]string{"ab"}, 100000), "c")},
	} {
		checkWords(t, c.s, c.want, api.OK)
	}
}

func TestAnEmptyWord(t *testing.T) {
	for _, s := range []string{
		"",
		" ", "  ", "   ", // blanks alone
		" a", "  a", " a b", " a b c", // at the beginning
		"a ", "a  ", "a b ", "a b c ", // at the end
		" a ", "  a  ", " a b ",
		"a  b", "a   b", "a  b c", "a b  c", "a b c  d", "a  b  c", // side by side
		" \t", "\t ", " \n", "\n ", "\n a  b",
		many(" ", 100000), many("a ", 100000), many(" a", 100000), many("a", 100000) + " ",
		many("a ", 50000) + " " + many("a ", 50000) + "a",
	} {
		checkWords(t, s, nil, api.ErrSyntax)
	}
}

// Each byte by itself, between blanks and behind one: only 32 is a blank.
func TestWordsOfEveryByte(t *testing.T) {
	for c := range 256 {
		b := string([]byte{byte(c)})
		for _, s := range []string{b, "a" + b, b + "a", "a" + b + "c", "a " + b, b + " a", "a " + b + " c", b + b} {
			want, e := worded(s)
			checkWords(t, s, want, e)
		}
		if c != 32 {
			checkWords(t, "a"+b+"c "+b, []string{"a" + b + "c", b}, api.OK)
			checkWords(t, b+" ", nil, api.ErrSyntax)
		}
	}
}

// P8.1: Join.

func TestJoin(t *testing.T) {
	for _, c := range []struct {
		words []string
		want  string
	}{
		{nil, ""},
		{[]string{}, ""},
		{[]string{""}, ""},
		{[]string{"", ""}, " "},
		{[]string{"", "", ""}, "  "},
		{[]string{"a"}, "a"},
		{[]string{" "}, " "},
		{[]string{"a", "b"}, "a b"},
		{[]string{"b", "a", "b"}, "b a b"},
		{[]string{"a", "", "b"}, "a  b"},
		{[]string{"", "a"}, " a"},
		{[]string{"a", ""}, "a "},
		{[]string{"", "a", ""}, " a "},
		{[]string{"a b", "c"}, "a b c"},
		{[]string{" a", "b "}, " a b "},
		{[]string{" ", " "}, "   "},
		{[]string{"a\n", "\tb", ";c"}, "a\n \tb ;c"},
		{[]string{"\xc3", "\xa9", "\xff", "é"}, "\xc3 \xa9 \xff é"},
		{[]string{many("x", 70000), many("y", 70001)}, many("x", 70000) + " " + many("y", 70001)},
		{make([]string, 100001), many(" ", 100000)},
		{append(slices.Repeat([]string{"ab"}, 100000), "c"), many("ab ", 100000) + "c"},
	} {
		checkJoin(t, c.words, c.want)
	}
	if s := Join(); s != "" {
		t.Errorf("Join() = %q", s)
	}
	if s := Join("5", "a", "ok", "3"); s != "5 a ok 3" {
		t.Errorf("Join of four words = %q", s)
	}
}

// P8.2: Note.

func TestNoteOfALineWithoutOne(t *testing.T) {
	for _, s := range []string{
		"", "a", " ", "a b", " a", "a ", "a  b", "\n", "a\nb", "a b\n", ":", "a :b", "a ,b", "a .", "5 a ok 3", "\x00", "\t",
		"；", "a ；b", "\u037e", "a \u037eb", "Ļ", "a Ļb", // signs that look like the ; , or whose number ends like its own
		"é\xff", "\xbb", "a \xbb",
		many("x", 100), many("x", 101), many("x", 102), many("x", 103), many(" ", 200), many("x\n", 100000),
	} {
		checkNote(t, s, answer{head: s})
	}
}

func TestNote(t *testing.T) {
	for _, c := range []struct {
		s, head, note string
	}{
		{"a ;b", "a", "b"},
		{"a b ;c", "a b", "c"},
		{"a ;b ;c", "a", "b ;c"},
		{"a ;b;c", "a", "b;c"},
		{"a ;;", "a", ";"},
		{"a ;;b", "a", ";b"},
		{"a ; ;", "a", " ;"},
		{"a ;;;;", "a", ";;;"},
		{"a ; x;y", "a", " x;y"},
		{"a ;b ", "a", "b "},
		{"a ; b ", "a", " b "},
		// Nothing behind the ; .
		{"a ;", "a", ""},
		{"a b ;", "a b", ""},
		{" ;", "", ""},
		// Nothing ahead of the blank.
		{" ;x", "", "x"},
		{" ; ", "", " "},
		{" ;a ;b", "", "a ;b"},
		// One blank alone goes to the note.
		{"  ;", " ", ""},
		{"  ;x", " ", "x"},
		{"a  ;x", "a ", "x"},
		{"a   ; x", "a  ", " x"},
		{" a ;x", " a", "x"},
		{"a  b ;x", "a  b", "x"},
		// Any byte but 10 may stand in a note.
		{"a ;\t\r\v\f\x00\x7f", "a", "\t\r\v\f\x00\x7f"},
		{"a ;é\xff\u0085\u2028", "a", "é\xff\u0085\u2028"},
		{"é\xff ;\xc3", "é\xff", "\xc3"},
		{"a\u00a0 ;x", "a\u00a0", "x"},
		// Ahead of it 10 may stand as well.
		{"\n ;x", "\n", "x"},
		{"a\nb ;x", "a\nb", "x"},
		{"a\n ;", "a\n", ""},
		{"\n\n ;x ;y", "\n\n", "x ;y"},
		{many("x", 100000) + " ;y", many("x", 100000), "y"},
		{many("x y\n", 100000) + " ;y", many("x y\n", 100000), "y"},
	} {
		checkNote(t, c.s, answer{c.head, c.note, true, api.OK})
	}
}

func TestNoteWithoutABlank(t *testing.T) {
	for _, s := range []string{
		";", ";b", ";;", "; ", ";;b", "; ;b", // at the beginning
		"a;", "a;b", "a b;c", "a b;", "a;b ;c", "a; ;b", "a;;b", " a;b", "a; b", "a,;b", "a\\;b",
		"\t;b", "a\t;b", "a \t;b", "\n;b", "a\n;b", "a \n;b", "a \r;b", "\x00;", "a \x00;", "a \v;b",
		"a\u00a0;b", "a\u2003;b", "a\u3000;b", "a \u00a0;b", "Ġ;b", "\xa0;b", "a \xff;b", // no blanks
		many("x", 100000) + ";y", many("x ", 1000) + "x;",
	} {
		checkNote(t, s, answer{e: api.ErrSyntax})
	}
}

// Any byte but a blank right ahead of the first ; is refused; behind it any but
// 10 may stand; neither hangs on what stands further ahead.
func TestNoteOfEveryByte(t *testing.T) {
	for c := range 256 {
		b := string([]byte{byte(c)})
		for _, head := range []string{"", "a", " ", "a ", "\n"} {
			for _, behind := range []string{"", "n", " ", " ;n"} {
				for _, s := range []string{head + b + ";" + behind, head + " ;" + b + behind, head + " ;" + behind + b, head + b + " ;" + behind} {
					checkNote(t, s, noted(s))
				}
			}
		}
		if c == 32 {
			checkNote(t, "a"+b+";n", answer{"a", "n", true, api.OK})
		} else {
			checkNote(t, "a"+b+";n", answer{e: api.ErrSyntax})
		}
		switch {
		case c == 10:
			checkNote(t, "a ;n"+b, answer{e: api.ErrSyntax})
			checkNote(t, "a"+b+" ;n", answer{"a\n", "n", true, api.OK})
		case c != ';':
			checkNote(t, "a ;n"+b, answer{"a", "n" + b, true, api.OK})
			checkNote(t, "a"+b+" ;n", answer{"a" + b, "n", true, api.OK})
		default:
			checkNote(t, "a ;n"+b, answer{"a", "n;", true, api.OK})
			checkNote(t, "a"+b+" ;n", answer{e: api.ErrSyntax})
		}
	}
}

func TestNotesOfEachLength(t *testing.T) {
	for length := range 300 {
		for _, sign := range []string{"n", " ", ";", "\xff", "\x00"} {
			for _, head := range []string{"", "a", many("x", 99), many("x", 100), many("x", 101), many("x", 1000)} {
				note := many(sign, length)
				want := answer{head, note, true, api.OK}
				if length > 100 {
					want = answer{e: api.ErrSyntax}
				}
				checkNote(t, head+" ;"+note, want)
			}
		}
	}
	checkNote(t, "a ;"+many("n", 1<<20), answer{e: api.ErrSyntax})
}

// Its bytes are counted, not its signs.
func TestNotesOfSignsOfManyBytes(t *testing.T) {
	for _, c := range []struct {
		note  string
		taken bool
	}{
		{many("é", 50), true},
		{many("é", 50) + "n", false},
		{many("é", 51), false},
		{many("é", 100), false},
		{many("日", 33) + "n", true},
		{many("日", 33) + "é", false},
		{many("😀", 25), true},
		{many("😀", 25) + "n", false},
		{many("😀", 26), false},
	} {
		want := answer{e: api.ErrSyntax}
		if c.taken {
			want = answer{"a", c.note, true, api.OK}
		}
		checkNote(t, "a ;"+c.note, want)
	}
}

// Wherever the byte 10 stands behind the ; .
func TestTheByte10InANote(t *testing.T) {
	note := many("n", 99)
	for place := range len(note) + 1 {
		checkNote(t, "a ;"+note[:place]+"\n"+note[place:], answer{e: api.ErrSyntax})
		checkNote(t, "a ;"+note[:place]+"\r"+note[place:], answer{"a", note[:place] + "\r" + note[place:], true, api.OK})
	}
	for _, s := range []string{"a ;\n", " ;\n", "a ;n\n", "a ;\nn", "a ;\n\n", "a\n ;\n", "a ;n\nb ;m\n", "a ;n ;\n"} {
		checkNote(t, s, answer{e: api.ErrSyntax})
	}
}

// P8.1, P8.2: every short text of bytes that matter and of one that doesn't.

// eachText hands over every text of at most most of the signs.
func eachText(signs string, most int, tell func(string)) {
	var from func(string)
	from = func(s string) {
		tell(s)
		if len(s) == most {
			return
		}
		for i := range len(signs) {
			from(s + signs[i:i+1])
		}
	}
	from("")
}

func TestEveryShortText(t *testing.T) {
	texts, lined, words, notes := 0, 0, 0, 0
	eachText("a\n ;", 8, func(s string) {
		texts++
		list, f := splitted(s)
		checkSplit(t, s, list, f)
		if f == (api.Fail{}) {
			lined++
		}
		list, e := worded(s)
		checkWords(t, s, list, e)
		if e == api.OK {
			words++
			checkJoin(t, list, s)
		}
		a := noted(s)
		checkNote(t, s, a)
		if a.noted {
			notes++
		}
		if t.Failed() {
			t.FailNow()
		}
	})
	// Of 4^n texts of n bytes a fourth ends with the byte 10, and the empty one
	// is right.
	if want := (1<<16-1)/3*4 + 1; texts != want {
		t.Errorf("%d texts were tried, want %d", texts, want)
	}
	if want := (1<<16-1)/3 + 1; lined != want {
		t.Errorf("%d texts were taken as lines, want %d", lined, want)
	}
	if words == 0 || notes == 0 {
		t.Errorf("%d texts were taken as words, %d as notes", words, notes)
	}
}

// P8.1: the lines that are told are those that were put together.

func TestSplitOfWhatIsPutTogether(t *testing.T) {
	r := rand.New(rand.NewSource(8))
	pieces := []string{"", "", "a", "bc", " ", ";", "a ;b", "\r", "\x00", "é", "\xff", "\u2028", many("x", 300)}
	for range 20000 {
		list := make([]string, r.Intn(12))
		text := ""
		for i := range list {
			for range r.Intn(3) {
				list[i] += pieces[r.Intn(len(pieces))]
			}
			text += list[i] + "\n"
		}
		checkSplit(t, text, list, api.Fail{})
		checkSplit(t, text+"z", nil, syntaxAt(len(list)+1))
	}
}

// P8.2: a note is told as it was put behind a head without a ; .

func TestNoteOfWhatIsPutTogether(t *testing.T) {
	for _, head := range []string{"", "a", "a b", " ", "a ", "\n", "é\xff", many("x", 200)} {
		for _, note := range []string{"", "n", " ", ";", " ;", "n ;m", "\x00\r\t", "é\xff", many("n", 100), many(";", 100)} {
			checkNote(t, head+" ;"+note, answer{head, note, true, api.OK})
			checkNote(t, Join(head, ";"+note), answer{head, note, true, api.OK})
		}
	}
}

// P8.3: what was joined is told word by word.

func checkToldAgain(t *testing.T, words []string) {
	t.Helper()
	checkWords(t, Join(words...), words, api.OK)
}

func TestWordsOfJoin(t *testing.T) {
	for _, words := range [][]string{
		{"a"}, {"a", "b"}, {"ab", "c"}, {"a", "bc"}, {"a", "b", "c"}, {"b", "a", "b", "b"},
		{";"}, {";", ";"}, {"a", ";b"}, {"\n"}, {"a\n", "\nb"}, {"\t", "\r", "\x00"}, {"~", "T", "-1", "f_2"},
		{"é", "日", "😀"}, {"\xff"}, {"\xc3", "\xa9"}, {"\u00a0", "\u2003", "Ġ"},
		{many("x", 70000), "y", many("z", 65536)},
		slices.Repeat([]string{"ab"}, 100000),
	} {
		checkToldAgain(t, words)
	}
	for c := range 256 {
		if c != 32 {
			b := string([]byte{byte(c)})
			checkToldAgain(t, []string{b})
			checkToldAgain(t, []string{b, b + b, "a" + b, b + "a", b})
		}
	}
}

// Every short list of short words, and no two of them are joined to one text.
func TestWordsOfJoinOfEveryShortList(t *testing.T) {
	var short []string
	eachText("a;\n", 2, func(s string) {
		if s != "" {
			short = append(short, s)
		}
	})
	lists := 0
	met := map[string]bool{}
	var from func([]string)
	from = func(words []string) {
		if len(words) > 0 {
			lists++
			met[Join(words...)] = true
			checkToldAgain(t, words)
		}
		if len(words) == 4 {
			return
		}
		for _, w := range short {
			from(append(slices.Clone(words), w))
		}
	}
	from(nil)
	if want := 12 + 12*12 + 12*12*12 + 12*12*12*12; lists != want || len(met) != want {
		t.Errorf("%d lists were joined to %d texts, want %d", lists, len(met), want)
	}
}

func TestWordsOfJoinOfLongLists(t *testing.T) {
	r := rand.New(rand.NewSource(83))
	for range 5000 {
		words := make([]string, 1+r.Intn(60))
		for i := range words {
			b := make([]byte, 1+r.Intn(50))
			r.Read(b)
			for j := range b {
				if b[j] == 32 {
					b[j] = 'x'
				}
			}
			words[i] = string(b)
		}
		checkToldAgain(t, words)
	}
}

// What is told word by word is joined as it was.
func TestJoinOfWords(t *testing.T) {
	taken := 0
	eachText("ab \xff", 7, func(s string) {
		words, e := Words(s)
		if e != api.OK {
			return
		}
		taken++
		if again := Join(words...); again != s {
			t.Errorf("the words of %q are joined to %q", s, again)
		}
	})
	if taken == 0 {
		t.Error("no text was taken")
	}
}

func FuzzLine(f *testing.F) {
	for _, s := range []string{"", "\n", "a", "a\nb", "a\n\nb c\n", "a b", "a  b", " a", "a ", "a ;b ;c", "a;b", ";", " ;\n", "a ;" + many("n", 100), "a ;" + many("n", 101)} {
		f.Add(s)
	}
	f.Fuzz(func(t *testing.T, s string) {
		list, fail := splitted(s)
		checkSplit(t, s, list, fail)
		checkNote(t, s, noted(s))
		list, e := worded(s)
		checkWords(t, s, list, e)
		if e == api.OK {
			checkJoin(t, list, s)
		}
		pieces := strings.Split(s, ";")
		checkJoin(t, pieces, strings.Join(pieces, " "))
		fields := strings.FieldsFunc(s, func(r rune) bool { return r == ' ' })
		if len(fields) > 0 {
			checkToldAgain(t, fields)
		}
	})
}

// R3: no list and an empty one are one, handed in.
func TestJoinOfNoListAndAnEmptyOne(t *testing.T) {
	if Join([]string(nil)...) != Join([]string{}...) || Join() != Join(make([]string, 0, 9)...) {
		t.Error("no words and an empty list of them are joined unlike")
	}
}

// R4: what is handed in isn't changed and isn't kept, spare room included.
func TestJoinKeepsNothing(t *testing.T) {
	for long := range 20 {
		room := slices.Repeat([]string{"ab"}, long+5)
		s := Join(room[:long]...)
		want := strings.TrimSuffix(many("ab ", long), " ")
		if s != want || !slices.Equal(room, slices.Repeat([]string{"ab"}, long+5)) {
			t.Fatalf("Join of %d words = %q, and what was handed in is %q", long, s, room)
		}
		for i := range room {
			room[i] = "other"
		}
		if s != want || Join(slices.Repeat([]string{"ab"}, long)...) != want {
			t.Fatalf("what Join answers hangs on what was handed in earlier")
		}
	}
}

// spoil overwrites all of a list, its spare room included.
func spoil(list []string) {
	for i := range list[:cap(list)] {
		list[:cap(list)][i] = "other"
	}
}

// R4: each answer is new, spare room included.
func TestListsAreNew(t *testing.T) {
	for long := 1; long <= 40; long++ {
		want := slices.Repeat([]string{"ab"}, long)
		first, _ := Split(many("ab\n", long))
		second, _ := Split(many("ab\n", long))
		spoil(first)
		if !slices.Equal(second, want) {
			t.Fatalf("two answers of Split share memory: %q", second)
		}
		spoil(second)
		checkSplit(t, many("ab\n", long), want, api.Fail{})
		s := Join(want...)
		first, _ = Words(s)
		second, _ = Words(s)
		spoil(first)
		if !slices.Equal(second, want) {
			t.Fatalf("two answers of Words share memory: %q", second)
		}
		spoil(second)
		checkWords(t, s, want, api.OK)
	}
}

// R5: neither calls ahead of it nor their errors are told by a later call.
func TestAnswersHangOnNothingElse(t *testing.T) {
	for _, wrong := range []string{"a", "a\nb", "", " ", "a  b", ";", "a;b", "a ;\n", "a ;" + many("n", 101)} {
		Split(wrong)
		Words(wrong)
		Note(wrong)
		Join(wrong, wrong)
		checkSplit(t, "a\nb\n", []string{"a", "b"}, api.Fail{})
		checkSplit(t, "", nil, api.Fail{})
		checkWords(t, "a b", []string{"a", "b"}, api.OK)
		checkNote(t, "a ;b", answer{"a", "b", true, api.OK})
		checkNote(t, "a", answer{head: "a"})
		checkJoin(t, []string{"a", "b"}, "a b")
	}
}

// The lines are told one by one: who stops asking is told no more, and who asks
// anew is told them from the first one on.
func TestLinesAreToldOneByOne(t *testing.T) {
	told := lines("a\nb\n\nc")
	for most := 1; most <= 5; most++ {
		var got []string
		for l, ended := range told {
			if ended != (len(got) < 3) {
				t.Errorf("line %d: ended %v", len(got)+1, ended)
			}
			got = append(got, l)
			if len(got) == most {
				break
			}
		}
		if want := []string{"a", "b", "", "c"}; !slices.Equal(got, want[:min(most, 4)]) {
			t.Errorf("of %d lines at most %q are told", most, got)
		}
	}
	for l := range lines("") {
		t.Fatalf("the empty text has the line %q", l)
	}
}
