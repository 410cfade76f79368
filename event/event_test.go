package event

import (
	"fmt"
	"math"
	"math/big"
	"math/rand"
	"regexp"
	"slices"
	"strings"
	"testing"

	"incognito/api"
)

// What the chapters say, by tables of their own.

var (
	wantTypes  = []string{"", "invoke", "ok", "fail", "info"}
	wantModels = []string{"", "reg", "cas", "set", "map", "fifo", "stack", "lock", "count", "max", "omap"}
	wantOps    = []string{"", "write", "read", "swap", "add", "del", "has", "put", "get", "push", "pop", "take", "free", "scan"}
)

// wantArgs tells what is handed in: v is a number or a word, n a number.
var wantArgs = map[string]string{
	"reg write": "v", "reg read": "",
	"cas write": "v", "cas read": "", "cas swap": "vv",
	"set add": "v", "set del": "v", "set has": "v",
	"map put": "vv", "map get": "v", "map del": "v",
	"fifo push": "v", "fifo pop": "",
	"stack push": "v", "stack pop": "",
	"lock take": "", "lock free": "",
	"count add": "n", "count read": "",
	"max write": "v", "max read": "",
	"omap put": "vv", "omap del": "v", "omap scan": "vv",
}

var (
	wordForm   = regexp.MustCompile(`^[a-z][a-z0-9_]{0,39}$`)
	numberForm = regexp.MustCompile(`^(0|-?[1-9][0-9]*)$`)
	leastInt   = big.NewInt(math.MinInt64)
	greatest   = big.NewInt(math.MaxInt64)
)

// sortOf tells what a value's text is: v and n as above, o of nothing, yes and no.
func sortOf(word string) (byte, api.Errno) {
	switch {
	case word == "~" || word == "T" || word == "F":
		return 'o', api.OK
	case wordForm.MatchString(word):
		return 'v', api.OK
	case !numberForm.MatchString(word):
		return 0, api.ErrSyntax
	}
	n, _ := new(big.Int).SetString(word, 10)
	if n.Cmp(leastInt) < 0 || n.Cmp(greatest) > 0 {
		return 0, api.ErrNumber
	}
	return 'n', api.OK
}

// valueOf is the value of a text that sortOf doesn't refuse.
func valueOf(word string) api.Value {
	sort, _ := sortOf(word)
	switch {
	case sort == 'n':
		n, _ := new(big.Int).SetString(word, 10)
		return isInt(n.Int64())
	case sort == 'v':
		return isWord(word)
	case word == "T":
		return yes
	case word == "F":
		return no
	}
	return nothing
}

// timeFault, valueFault and the others tell what is wrong with a word at its place.

func timeFault(word string) api.Errno {
	if strings.HasPrefix(word, "-") {
		return api.ErrSyntax
	}
	sort, e := sortOf(word)
	if e == api.OK && sort != 'n' {
		return api.ErrSyntax
	}
	return e
}

func valueFault(word string) api.Errno {
	_, e := sortOf(word)
	return e
}

func takenFault(asked byte, word string) api.Errno {
	sort, e := sortOf(word)
	if e == api.OK && (sort == 'o' || asked == 'n' && sort != 'n') {
		return api.ErrSyntax
	}
	return e
}

func amongFault(list []string, word string) api.Errno {
	if word == "" || !slices.Contains(list, word) {
		return api.ErrSyntax
	}
	return api.OK
}

// faultAt is the fault of the words' one at place, if none of those ahead has any;
// a word too many has one.
func faultAt(words []string, place int) api.Errno {
	word := words[place]
	switch place {
	case 0:
		return timeFault(word)
	case 1:
		return takenFault('v', word)
	case 2:
		return amongFault(wantTypes, word)
	}
	switch words[2] {
	case "ok":
		return valueFault(word)
	case "invoke":
		return callFaultAt(words, place)
	}
	return api.ErrSyntax
}

func callFaultAt(words []string, place int) api.Errno {
	word := words[place]
	switch place {
	case 3:
		return amongFault(wantModels, word)
	case 4:
		return takenFault('v', word)
	case 5:
		if _, can := wantArgs[words[3]+" "+word]; !can {
			return api.ErrSyntax
		}
		return api.OK
	}
	asked := wantArgs[words[3]+" "+words[5]]
	if place-6 >= len(asked) {
		return api.ErrSyntax
	}
	return takenFault(asked[place-6], word)
}

// least is how many words a line must have of which none is wrong.
func least(words []string) int {
	switch {
	case len(words) < 3 || words[2] != "invoke":
		return 3
	case len(words) < 6:
		return 6
	}
	return 6 + len(wantArgs[words[3]+" "+words[5]])
}

// parsed is what Parse is to answer.
func parsed(s string) (api.Event, api.Errno) {
	var event api.Event
	head := s
	if i := strings.IndexByte(s, ';'); i >= 0 {
		if i == 0 || s[i-1] != ' ' || len(s)-i-1 > 100 || strings.Contains(s[i:], "\n") {
			return api.Event{}, api.ErrSyntax
		}
		head, event.Noted, event.Note = s[:i-1], true, s[i+1:]
	}
	words := strings.Split(head, " ")
	if slices.Contains(words, "") {
		return api.Event{}, api.ErrSyntax
	}
	for place := range words {
		if e := faultAt(words, place); e != api.OK {
			return api.Event{}, e
		}
	}
	if len(words) < least(words) {
		return api.Event{}, api.ErrSyntax
	}
	event.Time = valueOf(words[0]).N
	event.Client = valueOf(words[1])
	event.Type = slices.Index(wantTypes, words[2])
	switch words[2] {
	case "ok":
		event.Out = valuesOf(words[3:]...)
	case "invoke":
		event.Model = slices.Index(wantModels, words[3])
		event.Key = valueOf(words[4])
		event.Op = slices.Index(wantOps, words[5])
		event.Args = valuesOf(words[6:]...)
	}
	return event, api.OK
}

func valuesOf(words ...string) []api.Value {
	var list []api.Value
	for _, word := range words {
		list = append(list, valueOf(word))
	}
	return list
}

// textOf is a value's text; false: it isn't right.
func textOf(v api.Value) (string, bool) {
	switch {
	case v == nothing:
		return "~", true
	case v == yes:
		return "T", true
	case v == no:
		return "F", true
	case v == isInt(v.N):
		return fmt.Sprint(v.N), true
	case v == isWord(v.S) && wordForm.MatchString(v.S):
		return v.S, true
	}
	return "", false
}

// printed is what Print is to answer; nothing: Right is to answer false. What isn't
// right has no line that is read, or one of another event.
func printed(e api.Event) string {
	b := []byte(fmt.Sprint(e.Time, " "))
	put := func(v api.Value) {
		s, ok := textOf(v)
		if !ok {
			s = "?"
		}
		b = fmt.Append(b, s, " ")
	}
	put(e.Client)
	if e.Type < 1 || e.Type > 4 {
		return ""
	}
	b = fmt.Append(b, wantTypes[e.Type], " ")
	if e.Type == api.Invoke {
		if e.Model < 1 || e.Model > 10 || e.Op < 1 || e.Op > 13 {
			return ""
		}
		b = fmt.Append(b, wantModels[e.Model], " ")
		put(e.Key)
		b = fmt.Append(b, wantOps[e.Op], " ")
		for _, v := range e.Args {
			put(v)
		}
	} else {
		for _, v := range e.Out {
			put(v)
		}
	}
	line := strings.TrimSuffix(string(b), " ")
	if e.Noted {
		line += " ;" + e.Note
	}
	if back, err := parsed(line); err != api.OK || !same(back, e) {
		return ""
	}
	return line
}

// same tells whether two events are one, by R3.
func same(a, b api.Event) bool {
	return a.Time == b.Time && a.Client == b.Client && a.Type == b.Type && a.Model == b.Model &&
		a.Key == b.Key && a.Op == b.Op && slices.Equal(a.Args, b.Args) && slices.Equal(a.Out, b.Out) &&
		a.Noted == b.Noted && a.Note == b.Note
}

// isZero tells whether it is the event that is answered beside an error.
func isZero(e api.Event) bool { return same(e, api.Event{}) }

var (
	nothing = api.Value{}
	yes     = api.Value{Kind: api.Bool, N: 1}
	no      = api.Value{Kind: api.Bool}
	seven   = isInt(7)
	alice   = isWord("alice")
)

func isInt(n int64) api.Value   { return api.Value{Kind: api.Int, N: n} }
func isWord(s string) api.Value { return api.Value{Kind: api.Word, S: s} }

// values is a list of them.
func values(list ...api.Value) []api.Value { return list }

// rightValues answers values that are right.
func rightValues() []api.Value {
	return values(nothing, yes, no, seven, isInt(0), isInt(-1), isInt(math.MaxInt64), isInt(math.MinInt64),
		alice, isWord("a"), isWord("z_09"), isWord(strings.Repeat("w", 40)))
}

// wrongValues answers values that aren't right.
func wrongValues() []api.Value {
	return values(api.Value{N: 1}, api.Value{S: "a"}, api.Value{Kind: api.Int, N: 7, S: "a"},
		isWord(""), isWord("A"), isWord("9a"), isWord("a b"), isWord("a;"), isWord("a\n"), isWord("~"), isWord("7"),
		isWord(strings.Repeat("w", 41)), api.Value{Kind: api.Word, S: "a", N: 1},
		api.Value{Kind: api.Bool, N: 2}, api.Value{Kind: api.Bool, N: -1}, api.Value{Kind: api.Bool, N: 1, S: "T"},
		api.Value{Kind: 4}, api.Value{Kind: -1}, api.Value{Kind: 4, N: 7}, api.Value{Kind: math.MaxInt, S: "a"})
}

func allValues() []api.Value { return append(rightValues(), wrongValues()...) }

// isTaken tells whether a domain of a number or a word takes it.
func isTaken(v api.Value) bool {
	_, right := textOf(v)
	return right && (v.Kind == api.Int || v.Kind == api.Word)
}

// checkEvent holds Right, Print and Parse of the line against the line that e is
// to have; nothing: e isn't right.
func checkEvent(t *testing.T, e api.Event, want string) {
	t.Helper()
	if Right(e) != (want != "") {
		t.Errorf("Right(%#v) = %v", e, want == "")
	}
	if s := Print(e); s != want {
		t.Errorf("Print(%#v) = %q, want %q", e, s, want)
	}
	if printed(e) != want {
		t.Errorf("the test takes %#v wrongly", e)
	}
	if want != "" {
		checkParse(t, want, e, api.OK)
	}
}

// checkRight is checkEvent where the line isn't written out.
func checkRight(t *testing.T, e api.Event, want bool) {
	t.Helper()
	line := printed(e)
	if (line != "") != want {
		t.Errorf("the test takes %#v wrongly", e)
	}
	checkEvent(t, e, line)
}

func checkParse(t *testing.T, s string, want api.Event, wantE api.Errno) {
	t.Helper()
	got, e := Parse(s)
	if e != wantE || !same(got, want) {
		t.Errorf("Parse(%.200q) = %#v, %d, want %#v, %d", s, got, e, want, wantE)
	}
	if e != api.OK && !isZero(got) {
		t.Errorf("Parse(%.200q): beside %d stands %#v", s, e, got)
	}
	if e == api.OK && (!Right(got) || Print(got) != s) {
		t.Errorf("Print of Parse(%.200q) = %.200q", s, Print(got))
	}
	if got, e := parsed(s); e != wantE || !same(got, want) {
		t.Errorf("the test takes %.200q wrongly", s)
	}
}

// checkFault is checkParse of what is refused.
func checkFault(t *testing.T, wantE api.Errno, lines ...string) {
	t.Helper()
	for _, s := range lines {
		checkParse(t, s, api.Event{}, wantE)
	}
}

// checkLine holds Parse against what the test takes s for.
func checkLine(t *testing.T, s string) {
	t.Helper()
	want, wantE := parsed(s)
	checkParse(t, s, want, wantE)
}

// One of each type.

func call() api.Event {
	return api.Event{Time: 5, Client: alice, Type: api.Invoke, Model: api.Cas, Key: isInt(-3), Op: api.Swap, Args: values(seven, isWord("b"))}
}

func done(out ...api.Value) api.Event {
	return api.Event{Time: 5, Client: alice, Type: api.Done, Out: out}
}

func failed() api.Event { return api.Event{Time: 5, Client: alice, Type: api.Failed} }
func info() api.Event   { return api.Event{Time: 5, Client: alice, Type: api.Info} }

// ofEachType answers one event of each type.
func ofEachType() []api.Event {
	return []api.Event{call(), done(seven, nothing), failed(), info()}
}

// rightLines answers a line of each sign and of each type.
func rightLines() []string {
	list := []string{"5 a ok", "5 a ok 3", "0 -7 ok ~ T F 3 x", "5 a fail", "5 a info", "9223372036854775807 7 fail"}
	for doing, asked := range wantArgs {
		model, op, _ := strings.Cut(doing, " ")
		words := append([]string{"12", "al", "invoke", model, "k_1", op}, []string{"7", "-8"}[:len(asked)]...)
		list = append(list, strings.Join(words, " "))
	}
	slices.Sort(list)
	return list
}

// P10.1: Right and Print.

func TestEachType(t *testing.T) {
	checkEvent(t, call(), "5 alice invoke cas -3 swap 7 b")
	checkEvent(t, done(), "5 alice ok")
	checkEvent(t, done(seven), "5 alice ok 7")
	checkEvent(t, done(seven, nothing, yes, no, alice, isInt(-1)), "5 alice ok 7 ~ T F alice -1")
	checkEvent(t, failed(), "5 alice fail")
	checkEvent(t, info(), "5 alice info")
	for _, kind := range []int{0, 5, -1, 6, 255, math.MaxInt, math.MinInt} {
		for _, e := range ofEachType() {
			e.Type = kind
			checkEvent(t, e, "")
		}
		checkEvent(t, api.Event{Client: alice, Type: kind}, "")
	}
	checkEvent(t, api.Event{}, "")
}

func TestTimes(t *testing.T) {
	for _, e := range ofEachType() {
		for _, n := range []int64{0, 1, 9, 10, 1 << 31, 1 << 32, math.MaxInt64 - 1, math.MaxInt64} {
			e.Time = n
			checkRight(t, e, true)
		}
		for _, n := range []int64{-1, -5, -1 << 31, math.MinInt64, math.MinInt64 + 1} {
			e.Time = n
			checkRight(t, e, false)
		}
	}
	e := info()
	e.Time = math.MaxInt64
	checkEvent(t, e, "9223372036854775807 alice info")
	e.Time = 0
	checkEvent(t, e, "0 alice info")
}

func TestClients(t *testing.T) {
	for _, e := range ofEachType() {
		for _, v := range allValues() {
			e.Client = v
			checkRight(t, e, isTaken(v))
		}
		for _, v := range append(wrongValues(), nothing, yes, no) {
			e.Client = v
			checkEvent(t, e, "")
		}
	}
	e := failed()
	e.Client = isInt(math.MinInt64)
	checkEvent(t, e, "5 -9223372036854775808 fail")
}

// Each model with each thing that is done, with each number of Args.
func TestEachModelWithEachThingDone(t *testing.T) {
	can := 0
	for model := -1; model <= 12; model++ {
		for op := -1; op <= 15; op++ {
			asked, ok := "", false
			if model > 0 && model < len(wantModels) && op > 0 && op < len(wantOps) {
				asked, ok = wantArgs[wantModels[model]+" "+wantOps[op]]
			}
			if ok {
				can++
			}
			for many := range 5 {
				e := call()
				e.Model, e.Op, e.Args = model, op, slices.Repeat(values(seven), many)
				checkRight(t, e, ok && many == len(asked))
			}
		}
	}
	if can != len(wantArgs) || can != 24 {
		t.Errorf("%d things can be done", can)
	}
}

// Each sign with each value in each place, and with one too few and too many.
func TestArgs(t *testing.T) {
	for _, s := range rightLines() {
		e, _ := parsed(s)
		if e.Type != api.Invoke {
			continue
		}
		checkEvent(t, e, s)
		asked := wantArgs[wantModels[e.Model]+" "+wantOps[e.Op]]
		args := e.Args
		for place := range args {
			for _, v := range allValues() {
				e.Args = slices.Clone(args)
				e.Args[place] = v
				checkRight(t, e, isTaken(v) && (asked[place] == 'v' || v.Kind == api.Int))
			}
			e.Args = slices.Delete(slices.Clone(args), place, place+1)
			checkRight(t, e, false)
		}
		for place := range len(args) + 1 {
			for _, v := range allValues() {
				e.Args = slices.Insert(slices.Clone(args), place, v)
				checkRight(t, e, false)
			}
		}
		e.Args = nil
		checkRight(t, e, len(asked) == 0)
		e.Args = slices.Repeat(values(seven), 1000)
		checkRight(t, e, false)
	}
}

func TestKeys(t *testing.T) {
	for _, s := range rightLines() {
		e, _ := parsed(s)
		if e.Type != api.Invoke {
			continue
		}
		for _, v := range allValues() {
			e.Key = v
			checkRight(t, e, isTaken(v))
		}
	}
	for _, v := range append(wrongValues(), nothing, yes, no) {
		e := call()
		e.Key = v
		checkEvent(t, e, "")
	}
}

func TestWhatAnInvokeHasNot(t *testing.T) {
	for _, s := range rightLines() {
		e, _ := parsed(s)
		if e.Type != api.Invoke {
			continue
		}
		for _, v := range allValues() {
			e.Out = values(v)
			checkRight(t, e, false)
		}
	}
}

func TestWhatOnlyAnInvokeHas(t *testing.T) {
	for _, e := range []api.Event{done(), done(seven), failed(), info()} {
		checkRight(t, e, true)
		for _, n := range []int{-1, 1, 2, 10, 13, math.MaxInt} {
			with := e
			with.Model = n
			checkRight(t, with, false)
			with = e
			with.Op = n
			checkRight(t, with, false)
		}
		for _, v := range allValues() {
			with := e
			with.Key = v
			checkRight(t, with, v == nothing)
			with = e
			with.Args = values(v)
			checkRight(t, with, false)
		}
		with := call()
		with.Type, with.Out = e.Type, e.Out
		checkRight(t, with, false)
	}
}

func TestWhatIsDone(t *testing.T) {
	for _, v := range allValues() {
		_, right := textOf(v)
		checkRight(t, done(v), right)
		checkRight(t, done(v, seven), right)
		checkRight(t, done(seven, nothing, v), right)
		checkRight(t, done(yes, v, no), right)
		for _, e := range []api.Event{failed(), info()} {
			e.Out = values(v)
			checkRight(t, e, false)
		}
	}
	for many := range 60 {
		checkRight(t, done(slices.Repeat(values(no), many)...), true)
	}
	long := slices.Repeat(rightValues(), 5000)
	checkRight(t, done(long...), true)
	long[len(long)-1] = isWord("A")
	checkRight(t, done(long...), false)
}

func TestNotes(t *testing.T) {
	for _, plain := range ofEachType() {
		line := printed(plain)
		for _, note := range []string{"", " ", ";", "why", " why; and ;more ", "a\tb\rc\x00\x0b", "\xff\xfe", "é", ";;", "~",
			strings.Repeat("n", 99), strings.Repeat("n", 100), strings.Repeat(";", 100), strings.Repeat(" ", 100), strings.Repeat("é", 50)} {
			e := plain
			e.Noted, e.Note = true, note
			checkEvent(t, e, line+" ;"+note)
			e.Noted = false
			if note != "" {
				checkEvent(t, e, "")
			}
		}
		for _, note := range []string{"\n", "a\nb", "why\n", "\nwhy", strings.Repeat("n", 99) + "\n",
			strings.Repeat("n", 101), strings.Repeat("n", 100) + "\n", strings.Repeat("é", 50) + "n", strings.Repeat("n", 100000)} {
			e := plain
			e.Noted, e.Note = true, note
			checkEvent(t, e, "")
			e.Noted = false
			checkEvent(t, e, "")
		}
	}
}

// A note of each byte.
func TestEachByteOfANote(t *testing.T) {
	for c := range 256 {
		e := failed()
		e.Noted, e.Note = true, "a"+string([]byte{byte(c)})+"z"
		checkRight(t, e, c != 10)
		checkLine(t, "5 a fail ;a"+string([]byte{byte(c)})+"z")
	}
}

// P10.2: Parse.

func TestParse(t *testing.T) {
	checkParse(t, "0 alice invoke reg x write 5", api.Event{Client: alice, Type: api.Invoke, Model: api.Register,
		Key: isWord("x"), Op: api.Write, Args: values(isInt(5))}, api.OK)
	checkParse(t, "12 -3 invoke omap 7 scan a b ;why", api.Event{Time: 12, Client: isInt(-3), Type: api.Invoke, Model: api.Ordered,
		Key: seven, Op: api.Scan, Args: values(isWord("a"), isWord("b")), Noted: true, Note: "why"}, api.OK)
	checkParse(t, "5 a invoke lock invoke take", api.Event{Time: 5, Client: isWord("a"), Type: api.Invoke, Model: api.Lock,
		Key: isWord("invoke"), Op: api.Take}, api.OK)
	checkParse(t, "5 ok ok ok", api.Event{Time: 5, Client: isWord("ok"), Type: api.Done, Out: values(isWord("ok"))}, api.OK)
	checkParse(t, "5 a ok ~ T F -1 t f", api.Event{Time: 5, Client: isWord("a"), Type: api.Done,
		Out: values(nothing, yes, no, isInt(-1), isWord("t"), isWord("f"))}, api.OK)
	checkParse(t, "9223372036854775807 a fail ;", api.Event{Time: math.MaxInt64, Client: isWord("a"), Type: api.Failed, Noted: true}, api.OK)
	checkParse(t, "5 a info ; ;", api.Event{Time: 5, Client: isWord("a"), Type: api.Info, Noted: true, Note: " ;"}, api.OK)
	for _, s := range rightLines() {
		if _, e := parsed(s); e != api.OK {
			t.Errorf("the test takes %q wrongly", s)
		}
		checkLine(t, s)
	}
}

func TestParseOfTimes(t *testing.T) {
	for _, rest := range []string{" a ok", " a fail", " a info ;x", " a invoke lock k take"} {
		for _, word := range []string{"0", "1", "10", "9223372036854775806", "9223372036854775807"} {
			checkLine(t, word+rest)
			if _, e := Parse(word + rest); e != api.OK {
				t.Errorf("Parse(%q) tells %d", word+rest, e)
			}
		}
		for _, word := range []string{"9223372036854775808", "9223372036854775817", "10000000000000000000", "18446744073709551616", "18446744073709551621", "1" + strings.Repeat("0", 500)} {
			checkFault(t, api.ErrNumber, word+rest)
		}
		for _, word := range []string{"00", "05", "007", "-0", "-1", "-5", "+5", "+0", "5x", "x5", "x", "0x5", "1e3", "5.0", "1_000", "~", "T", "F", "\t5", "5\n", "\n5", "٥",
			"-9223372036854775808", "-9223372036854775809", "09223372036854775808", "99999999999999999999x", "-" + strings.Repeat("9", 99)} {
			checkFault(t, api.ErrSyntax, word+rest)
		}
	}
}

// The words that may stand at the place of a client, a key or what is handed in.
func TestParseOfValues(t *testing.T) {
	taken := []string{"0", "7", "-7", "9223372036854775807", "-9223372036854775808", "a", "t", "f", "z_9", "invoke", "ok", strings.Repeat("w", 40)}
	great := []string{"9223372036854775808", "-9223372036854775809", "99999999999999999999", "-1" + strings.Repeat("0", 99), "18446744073709551617"}
	wrong := []string{"A", "9a", "_a", "a-b", "a.b", "a\n", "\na", "a\tb", "é", "00", "-0", "+7", "--7", "-", "~~", "TT", "TF", "~a", "\x00", "\xff", "05", "099999999999999999999", strings.Repeat("w", 41)}
	none := []string{"~", "T", "F"}
	for _, form := range []string{"5 @ ok", "5 @ info ;n", "5 @ fail", "5 @ invoke lock k take", "5 a invoke lock @ take ;n", "5 a invoke reg @ write 7", "5 a invoke reg k write @",
		"5 a invoke cas k swap @ 7", "5 a invoke cas k swap b @", "5 a invoke map k put @ c", "5 a invoke map k get @", "5 a invoke omap k scan 1 @"} {
		for _, word := range taken {
			s := strings.Replace(form, "@", word, 1)
			checkLine(t, s)
			if _, e := Parse(s); e != api.OK {
				t.Errorf("Parse(%q) tells %d", s, e)
			}
		}
		for _, word := range great {
			checkFault(t, api.ErrNumber, strings.Replace(form, "@", word, 1))
		}
		for _, word := range append(wrong, none...) {
			checkFault(t, api.ErrSyntax, strings.Replace(form, "@", word, 1))
		}
	}
	for _, form := range []string{"5 a ok @", "5 a ok @ 7", "5 a ok ~ b @", "5 a ok T @ F"} {
		for _, word := range append(taken, none...) {
			s := strings.Replace(form, "@", word, 1)
			checkLine(t, s)
			if _, e := Parse(s); e != api.OK {
				t.Errorf("Parse(%q) tells %d", s, e)
			}
		}
		for _, word := range great {
			checkFault(t, api.ErrNumber, strings.Replace(form, "@", word, 1))
		}
		for _, word := range wrong {
			checkFault(t, api.ErrSyntax, strings.Replace(form, "@", word, 1))
		}
	}
	checkFault(t, api.ErrSyntax, "5 a invoke count k add x", "5 a invoke count k add ~", "5 a invoke count k add T")
	checkFault(t, api.ErrNumber, "5 a invoke count k add 9223372036854775808", "5 a invoke count k add -9223372036854775809")
	checkLine(t, "5 a invoke count k add -9223372036854775808")
}

// Words that are near the type's, the model's and what is done's, or are those of
// another place.
func TestParseOfNames(t *testing.T) {
	odd := []string{"done", "okay", "Ok", "OK", "o", "invok", "invoked", "INVOKE", "failed", "fai", "information", "inf", "1", "2", "~", "T",
		"re", "regs", "Reg", "queue", "counter", "ordered", "lockk", "writ", "writes", "WRITE", "delete", "reads", "scans", "\n", "ok\n", "\tok", "99999999999999999999"}
	for _, word := range odd {
		checkFault(t, api.ErrSyntax, "5 a "+word, "5 a "+word+" 3", "5 a "+word+" reg k read",
			"5 a invoke "+word+" k read", "5 a invoke "+word+" k "+word, "5 a invoke reg k "+word, "5 a invoke reg k "+word+" 3")
	}
	for _, word := range slices.Concat(wantModels[1:], wantOps[1:], []string{"ok", "invoke"}) {
		checkFault(t, api.ErrSyntax, "5 a invoke "+word, "5 a invoke "+word+" k")
		checkLine(t, "5 a "+word)
		checkLine(t, "5 a "+word+" reg k read")
		checkLine(t, "5 a invoke "+word+" k read")
		checkLine(t, "5 a invoke lock k "+word)
		checkLine(t, "5 a invoke lock "+word+" take")
		checkLine(t, "5 "+word+" fail")
	}
}

// Each line without what stands behind each word, with each word left out, and
// with a word more in each place.
func TestWordsTooFewAndTooMany(t *testing.T) {
	more := []string{"7", "a", "~", "T", "A", "99999999999999999999", "ok", "invoke", "reg", "take", "05"}
	for _, s := range rightLines() {
		words := strings.Split(s, " ")
		for place := range len(words) {
			short := strings.Join(words[:place], " ")
			checkLine(t, short)
			checkLine(t, short+" ;n")
			checkLine(t, strings.Join(slices.Delete(slices.Clone(words), place, place+1), " "))
			if words[2] != "ok" || place < 3 {
				checkFault(t, api.ErrSyntax, short)
			}
		}
		for place := range len(words) + 1 {
			for _, word := range more {
				checkLine(t, strings.Join(slices.Insert(slices.Clone(words), place, word), " "))
			}
		}
		for _, word := range more {
			if words[2] != "ok" {
				checkFault(t, api.ErrSyntax, s+" "+word, s+" "+word+" "+word, s+" "+word+" ;n")
			}
		}
	}
	checkFault(t, api.ErrSyntax, "", "5", "5 a", "5 a invoke", "5 a invoke reg", "5 a invoke reg k", "5 a invoke reg k write",
		"5 a invoke cas k swap", "5 a invoke cas k swap 1", "5 a invoke cas k swap 1 2 3", "5 a fail 3", "5 a info x", "5 a invoke lock k take T")
}

// A blank more at each place, and none where one stands.
func TestBlanks(t *testing.T) {
	for _, s := range append(rightLines(), "5 a ok 3 ;n", "5 a fail ;", "5 a invoke lock k take ; n") {
		note := len(s)
		if i := strings.Index(s, ";"); i >= 0 {
			note = i
		}
		for place := range len(s) + 1 {
			more := s[:place] + " " + s[place:]
			checkLine(t, more)
			if place < len(s) && s[place] == ' ' && place < note {
				checkFault(t, api.ErrSyntax, more)
				checkLine(t, s[:place]+s[place+1:])
				checkFault(t, api.ErrSyntax, s[:place]+"\t"+s[place+1:], s[:place]+"\n"+s[place+1:])
			}
		}
		checkFault(t, api.ErrSyntax, " "+s, "  "+s, "\t"+s)
		if note == len(s) {
			checkFault(t, api.ErrSyntax, s+" ", s+"  ", s+"\n", s+"\t", s+"\r", s+"\x00")
		}
	}
	checkFault(t, api.ErrSyntax, " ", "  ", "\n", "\t", " ;", " ;n", "  ;n")
}

func TestParseOfNotes(t *testing.T) {
	for _, s := range rightLines() {
		for _, note := range []string{"", "n", ";", " ", " n", "n ", " ;", "a;b ;c", "a b  c", strings.Repeat("n", 100), strings.Repeat("; ", 50), "\xff\x00\t\r"} {
			want, _ := parsed(s)
			want.Noted, want.Note = true, note
			checkParse(t, s+" ;"+note, want, api.OK)
		}
		checkFault(t, api.ErrSyntax, s+";", s+";n", s+"; n", s+"; ;n", s+"  ;n", s+"\t;n", s+" ;"+strings.Repeat("n", 101), s+" ;"+strings.Repeat("; ", 51),
			s+" ;\n", s+" ;a\nb", s+" ;a\n", s+" ;a ;b\n", ";"+s, " ;"+s, "; "+s, ";", strings.Replace(s, " ", ";", 1), strings.Replace(s, " ", " ; ", 1))
	}
}

// Of several faults the first is told: the note's, the words', and then word by word.
func TestTheFirstFault(t *testing.T) {
	great := "99999999999999999999"
	for _, c := range []struct {
		s    string
		want api.Errno
	}{
		{great + " a ok;n", api.ErrSyntax},
		{great + " a ok ;" + strings.Repeat("n", 101), api.ErrSyntax},
		{great + " a ok ;a\nb", api.ErrSyntax},
		{great + " a ok ;n", api.ErrNumber},
		{great + "  a ok", api.ErrSyntax},
		{great + " a ok ", api.ErrSyntax},
		{" " + great + " a ok", api.ErrSyntax},
		{great + " a ok  ;n", api.ErrSyntax},
		{great, api.ErrNumber},
		{great + " A ok", api.ErrNumber},
		{great + " a okay", api.ErrNumber},
		{great + " a fail x", api.ErrNumber},
		{"-1 " + great + " ok", api.ErrSyntax},
		{"5 " + great, api.ErrNumber},
		{"5 " + great + " okay", api.ErrNumber},
		{"5 " + great + " invoke rex ~ pop", api.ErrNumber},
		{"5 A ok " + great, api.ErrSyntax},
		{"5 ~ ok " + great, api.ErrSyntax},
		{"5 a okay " + great, api.ErrSyntax},
		{"5 a fail " + great, api.ErrSyntax},
		{"5 a info " + great, api.ErrSyntax},
		{"5 a invoke rex " + great, api.ErrSyntax},
		{"5 a invoke rex " + great + " pop " + great, api.ErrSyntax},
		{"5 a invoke reg " + great, api.ErrNumber},
		{"5 a invoke reg " + great + " pop", api.ErrNumber},
		{"5 a invoke reg " + great + " wrote 5 6 7", api.ErrNumber},
		{"5 a invoke reg ~ write " + great, api.ErrSyntax},
		{"5 a invoke reg k pop " + great, api.ErrSyntax},
		{"5 a invoke reg k wrote " + great, api.ErrSyntax},
		{"5 a invoke reg k read " + great, api.ErrSyntax},
		{"5 a invoke reg k write " + great, api.ErrNumber},
		{"5 a invoke reg k write " + great + " 7", api.ErrNumber},
		{"5 a invoke reg k write 7 " + great, api.ErrSyntax},
		{"5 a invoke cas k swap " + great, api.ErrNumber},
		{"5 a invoke cas k swap " + great + " ~", api.ErrNumber},
		{"5 a invoke cas k swap ~ " + great, api.ErrSyntax},
		{"5 a invoke cas k swap A " + great, api.ErrSyntax},
		{"5 a invoke cas k swap 7 " + great + " 7", api.ErrNumber},
		{"5 a invoke cas k swap 7 8 " + great, api.ErrSyntax},
		{"5 a invoke count k add x " + great, api.ErrSyntax},
		{"5 a invoke count k add " + great + " x", api.ErrNumber},
		{"5 a ok A " + great, api.ErrSyntax},
		{"5 a ok " + great + " A", api.ErrNumber},
		{"5 a ok 1 T ~ " + great + " A", api.ErrNumber},
		{"5 a ok 1 T ~ A " + great, api.ErrSyntax},
	} {
		checkFault(t, c.want, c.s)
	}
	// Any two words of each line, wrong in one way or the other.
	odd := []string{great, "A", "~", "okay", "-" + great}
	for _, s := range rightLines() {
		words := strings.Split(s, " ")
		for i := range words {
			for j := range i + 1 {
				for _, a := range odd {
					for _, b := range odd {
						list := slices.Clone(words)
						list[i], list[j] = a, b
						checkLine(t, strings.Join(list, " "))
					}
				}
			}
		}
	}
}

// Every short line of some words.
func TestEveryShortLine(t *testing.T) {
	words := []string{"5", "a", "invoke", "ok", "reg", "write", "~"}
	lines := []string{""}
	for from := 0; len(lines) < 130000; {
		to := len(lines)
		for ; from < to; from++ {
			for _, word := range words {
				lines = append(lines, strings.TrimPrefix(lines[from]+" "+word, " "))
			}
		}
	}
	told := 0
	for _, s := range lines {
		checkLine(t, s)
		if _, e := Parse(s); e == api.OK {
			told++
		}
	}
	if told < 100 {
		t.Errorf("%d lines are told", told)
	}
	// What a register may be handed takes a seventh word.
	for _, s := range lines {
		if strings.HasPrefix(s, "5 a invoke reg") {
			for _, word := range words {
				checkLine(t, s+" "+word)
			}
		}
	}
}

// Every text of a few bytes.
func TestEveryShortText(t *testing.T) {
	texts := []string{""}
	for from := 0; len(texts) < 50000; {
		to := len(texts)
		for ; from < to; from++ {
			for _, c := range "5a ;\nok" {
				texts = append(texts, texts[from]+string(c))
			}
		}
	}
	for _, s := range texts {
		checkLine(t, s)
		checkLine(t, "5 a "+s)
		checkLine(t, "5 a ok"+s)
	}
}

func TestLongLines(t *testing.T) {
	out := "5 a ok" + strings.Repeat(" 7 ~ T", 100000)
	checkLine(t, out)
	checkLine(t, out+" ;n")
	checkFault(t, api.ErrSyntax, out+" A", out+" ")
	checkFault(t, api.ErrNumber, out+" 99999999999999999999 A")
	checkFault(t, api.ErrSyntax, strings.Repeat("a", 1<<20), strings.Repeat(" ", 1<<20), strings.Repeat(";", 1<<20),
		"5 a fail"+strings.Repeat(" 7", 100000), "5 a invoke reg k write"+strings.Repeat(" 7", 100000), "5 "+strings.Repeat("a", 1<<20)+" ok")
	checkFault(t, api.ErrNumber, strings.Repeat("9", 1<<16)+" a ok", "5 "+strings.Repeat("9", 1<<16))
}

// P10.3: each right event has one line, and no two have the same.

func TestEachRightEventHasOneLine(t *testing.T) {
	r := rand.New(rand.NewSource(10))
	met := map[string]api.Event{}
	right := 0
	for range 60000 {
		e := anyEvent(r)
		line := printed(e)
		checkEvent(t, e, line)
		if line == "" {
			continue
		}
		right++
		if old, ok := met[line]; ok && !same(old, e) {
			t.Errorf("%#v and %#v have one line", old, e)
		}
		met[line] = e
	}
	if right < 5000 {
		t.Errorf("%d of them are right", right)
	}
}

// one answers one of the list.
func one[T any](r *rand.Rand, list []T) T { return list[r.Intn(len(list))] }

func anyValue(r *rand.Rand) api.Value {
	if r.Intn(30) == 0 {
		return one(r, wrongValues())
	}
	if r.Intn(8) == 0 {
		return one(r, rightValues())
	}
	return one(r, values(seven, alice, isInt(r.Int63n(5)-2), isWord("a")))
}

func anyValues(r *rand.Rand, most int) []api.Value {
	list := make([]api.Value, r.Intn(most+1))
	for i := range list {
		list[i] = anyValue(r)
	}
	return list
}

// anyEvent answers an event of which much is right, so that some are as a whole.
func anyEvent(r *rand.Rand) api.Event {
	e := api.Event{Time: one(r, []int64{0, 1, 77, math.MaxInt64, 3, 4, 5}), Client: anyValue(r), Type: 1 + r.Intn(4)}
	if e.Type == api.Invoke {
		model, op, _ := strings.Cut(one(r, anyDoing), " ")
		e.Model, e.Op = slices.Index(wantModels, model), slices.Index(wantOps, op)
		e.Key = anyValue(r)
		e.Args = anyValues(r, 2)
	}
	if e.Type == api.Done {
		e.Out = anyValues(r, 5)
	}
	if r.Intn(3) == 0 {
		e.Noted, e.Note = true, one(r, []string{"", "n", ";", " a ;b", strings.Repeat("n", 100)})
	}
	switch r.Intn(40) {
	case 0:
		e.Time = -1 - r.Int63n(3)
	case 1:
		e.Type = r.Intn(7) - 1
	case 2:
		e.Model = r.Intn(12)
	case 3:
		e.Op = r.Intn(15)
	case 4:
		e.Key = anyValue(r)
	case 5:
		e.Args = anyValues(r, 3)
	case 6:
		e.Out = anyValues(r, 2)
	case 7:
		e.Note = one(r, []string{"n", "\n", strings.Repeat("n", 101)})
	}
	return e
}

// anyDoing lists what can be done.
var anyDoing = func() []string {
	var list []string
	for doing := range wantArgs {
		list = append(list, doing)
	}
	slices.Sort(list)
	return list
}()

// Lines of words that often are right where they stand.
func TestAnyLines(t *testing.T) {
	r := rand.New(rand.NewSource(11))
	lines := rightLines()
	odd := []string{"5", "a", "~", "T", "ok", "invoke", "info", "reg", "omap", "take", "write", "A", "", "05", "99999999999999999999", "-3", ";", ";n", "a;b"}
	for range 100000 {
		words := strings.Split(one(r, lines), " ")
		for range r.Intn(3) {
			switch place := r.Intn(len(words)); r.Intn(4) {
			case 0:
				words[place] = one(r, odd)
			case 1:
				words = slices.Insert(words, place, one(r, odd))
			case 2:
				words = append(words[:place:place], words[min(place+1, len(words)):]...)
			default:
				words = append(words, one(r, odd))
			}
			if len(words) == 0 {
				break
			}
		}
		checkLine(t, strings.Join(words, " "))
	}
}

func FuzzEvent(f *testing.F) {
	for _, s := range rightLines() {
		f.Add(s)
		f.Add(s + " ;n;")
	}
	f.Add("")
	f.Add("5 a invoke reg 99999999999999999999 pop")
	f.Fuzz(func(t *testing.T, s string) {
		checkLine(t, s)
		e, _ := Parse(s)
		checkEvent(t, e, printed(e))
	})
}

// The three examples of the chapter.
func TestExamples(t *testing.T) {
	if e, err := Parse("5 a ok 3"); err != api.OK || !same(e, api.Event{Time: 5, Client: isWord("a"), Type: api.Done, Out: values(isInt(3))}) {
		t.Errorf("5 a ok 3: %#v, %d", e, err)
	}
	if e, err := Parse("5 a done"); err != api.ErrSyntax || !isZero(e) {
		t.Errorf("5 a done: %#v, %d", e, err)
	}
	if e, err := Parse("-5 a ok"); err != api.ErrSyntax || !isZero(e) {
		t.Errorf("-5 a ok: %#v, %d", e, err)
	}
}

// R3: no list and an empty one are one.
func TestNoListAndAnEmptyOne(t *testing.T) {
	for _, line := range rightLines() {
		e, _ := parsed(line)
		if len(e.Args) == 0 {
			e.Args = []api.Value{}
			checkEvent(t, e, line)
			e.Args = make([]api.Value, 0, 9)
			checkEvent(t, e, line)
		}
		if len(e.Out) == 0 {
			e.Out = []api.Value{}
			checkEvent(t, e, line)
			e.Out = make([]api.Value, 0, 9)
			checkEvent(t, e, line)
		}
	}
}

// R4: what is handed in isn't changed, spare room included.
func TestWhatIsHandedInStays(t *testing.T) {
	for _, line := range rightLines() {
		for _, v := range allValues() {
			e, _ := parsed(line)
			args := append(slices.Clone(e.Args), v, v, v)
			out := append(slices.Clone(e.Out), v, v, v)
			wantArgs, wantOut := slices.Clone(args), slices.Clone(out)
			e.Args, e.Out = args[:len(e.Args)], out[:len(e.Out)]
			Right(e)
			Print(e)
			if !slices.Equal(args, wantArgs) || !slices.Equal(out, wantOut) {
				t.Fatalf("%q: what was handed in is %#v, %#v", line, args, out)
			}
		}
	}
}

// spoil overwrites all of a list, its spare room included.
func spoil(list []api.Value) {
	for i := range list[:cap(list)] {
		list[:cap(list)][i] = isWord("spoilt")
	}
}

// R4: each answer is new, spare room included.
func TestAnswersAreNew(t *testing.T) {
	for _, line := range append(rightLines(), "5 a ok 1 2 3 4 5 6 7 8 9") {
		first, _ := Parse(line)
		second, _ := Parse(line)
		spoil(first.Args)
		spoil(first.Out)
		want, _ := parsed(line)
		if !same(second, want) {
			t.Errorf("two answers share memory: %#v", second)
		}
		spoil(second.Args)
		spoil(second.Out)
		checkParse(t, line, want, api.OK)
	}
}

// R5: neither calls ahead of it nor what they answered are told by a later call.
func TestAnswersHangOnNothingElse(t *testing.T) {
	for _, s := range append(rightLines(), "", "5 a", "5 a ok A", "99999999999999999999 a ok", "5 a invoke cas k swap 1", "5 a ok ;n") {
		e, _ := Parse(s)
		Right(e)
		Print(e)
		Print(api.Event{Type: 9})
		checkEvent(t, call(), "5 alice invoke cas -3 swap 7 b")
		checkEvent(t, done(nothing, seven), "5 alice ok ~ 7")
		checkEvent(t, failed(), "5 alice fail")
		checkFault(t, api.ErrSyntax, "5 a done")
		checkFault(t, api.ErrNumber, "5 a ok 9223372036854775808")
	}
}
