package hist

import (
	"fmt"
	"math"
	"math/rand"
	"slices"
	"strings"
	"testing"

	"incognito/api"
	"incognito/event"
)

// What the chapter says, byte by byte; what an event is is said by layer 10.

// parsed is what Parse is to answer.
func parsed(text string) ([]api.Event, api.Fail) {
	var lines []string
	from := 0
	for i := range len(text) {
		if text[i] == 10 {
			lines = append(lines, text[from:i])
			from = i + 1
		}
	}
	if from < len(text) {
		return nil, failAt(api.ErrSyntax, len(lines)+1)
	}
	var h []api.Event
	for i, s := range lines {
		if i == 4096 {
			return nil, failAt(api.ErrMany, 4097)
		}
		e, code := event.Parse(s)
		if code != api.OK {
			return nil, failAt(code, i+1)
		}
		h = append(h, e)
	}
	return h, api.Fail{}
}

// printed is what Print is to answer.
func printed(h []api.Event) string {
	var b []byte
	for _, e := range h {
		if !event.Right(e) {
			return ""
		}
		b = append(b, event.Print(e)...)
		b = append(b, 10)
	}
	return string(b)
}

func failAt(code api.Errno, line int) api.Fail { return api.Fail{Code: code, Line: line} }

// sameEvent tells whether two events are one, by R3.
func sameEvent(a, b api.Event) bool {
	return a.Time == b.Time && a.Client == b.Client && a.Type == b.Type && a.Model == b.Model &&
		a.Key == b.Key && a.Op == b.Op && slices.Equal(a.Args, b.Args) && slices.Equal(a.Out, b.Out) &&
		a.Noted == b.Noted && a.Note == b.Note
}

// same tells whether two histories are one.
func same(a, b []api.Event) bool { return slices.EqualFunc(a, b, sameEvent) }

// short is what a fault of the tests tells of a history.
func short(h []api.Event) string {
	return fmt.Sprintf("%d events %.300q", len(h), fmt.Sprint(h[:min(len(h), 4)]))
}

// The checks end their test where they fail: most are made thousands of times.

// checkTold holds Parse of text against the history that it is to tell, and Print
// of that against text.
func checkTold(t *testing.T, text string, want []api.Event) {
	t.Helper()
	h, f := Parse(text)
	if f != (api.Fail{}) || !same(h, want) {
		t.Fatalf("Parse(%.120q) = %s, %v, want %s", text, short(h), f, short(want))
	}
	if s := Print(h...); s != text {
		t.Fatalf("Print of Parse(%.120q) = %.120q", text, s)
	}
	if s := Print(want...); s != text {
		t.Fatalf("Print(%s) = %.120q, want %.120q", short(want), s, text)
	}
	if h, f := parsed(text); f != (api.Fail{}) || !same(h, want) || printed(want) != text {
		t.Fatalf("the test takes %.120q wrongly", text)
	}
}

// checkFault holds Parse of what is refused against the fault.
func checkFault(t *testing.T, text string, want api.Fail) {
	t.Helper()
	if h, f := Parse(text); f != want || len(h) != 0 {
		t.Fatalf("Parse(%.120q and so on, %d bytes) = %s, %v, want %v", text, len(text), short(h), f, want)
	}
	if _, f := parsed(text); f != want {
		t.Fatalf("the test takes %.120q wrongly", text)
	}
}

// checkText holds Parse against what the test takes text for.
func checkText(t *testing.T, text string) {
	t.Helper()
	if want, f := parsed(text); f.Code == api.OK {
		checkTold(t, text, want)
	} else {
		checkFault(t, text, f)
	}
}

// checkPrint holds Print against the text.
func checkPrint(t *testing.T, want string, h ...api.Event) {
	t.Helper()
	if s := Print(h...); s != want {
		t.Fatalf("Print(%s) = %.120q, want %.120q", short(h), s, want)
	}
	if printed(h) != want {
		t.Fatalf("the test takes %s wrongly", short(h))
	}
}

var (
	nothing = api.Value{}
	yes     = api.Value{Kind: api.Bool, N: 1}
	no      = api.Value{Kind: api.Bool}
)

func isInt(n int64) api.Value   { return api.Value{Kind: api.Int, N: n} }
func isWord(s string) api.Value { return api.Value{Kind: api.Word, S: s} }

// values is a list of them.
func values(list ...api.Value) []api.Value { return list }

// row is an event, and its line.
type row struct {
	line  string
	event api.Event
}

func call(time int64, client string, model int, key string, op int, args ...api.Value) api.Event {
	return api.Event{Time: time, Client: isWord(client), Type: api.Invoke, Model: model, Key: isWord(key), Op: op, Args: args}
}

func done(time int64, client string, out ...api.Value) api.Event {
	return api.Event{Time: time, Client: isWord(client), Type: api.Done, Out: out}
}

func failed(time int64, client string) api.Event {
	return api.Event{Time: time, Client: isWord(client), Type: api.Failed}
}

func info(time int64, client string) api.Event {
	return api.Event{Time: time, Client: isWord(client), Type: api.Info}
}

// with is e with a note.
func with(note string, e api.Event) api.Event {
	e.Noted, e.Note = true, note
	return e
}

// rows answers events of each type, with and without notes.
func rows() []row {
	return []row{
		{"0 a invoke reg x write 5", call(0, "a", api.Register, "x", api.Write, isInt(5))},
		{"1 b invoke reg x read ;why", with("why", call(1, "b", api.Register, "x", api.Read))},
		{"2 a ok", done(2, "a")},
		{"3 b ok 5", done(3, "b", isInt(5))},
		{"3 b ok ~ T F -7 al ; 5 a ok", with(" 5 a ok", done(3, "b", nothing, yes, no, isInt(-7), isWord("al")))},
		{"9223372036854775807 a fail", failed(math.MaxInt64, "a")},
		{"4 a fail ;", with("", failed(4, "a"))},
		{"5 a info", info(5, "a")},
		{"5 a info ;;\r\t\x00\xff " + strings.Repeat("n", 94), with(";\r\t\x00\xff "+strings.Repeat("n", 94), info(5, "a"))},
		{"7 al invoke cas k_1 swap -8 z", call(7, "al", api.Cas, "k_1", api.Swap, isInt(-8), isWord("z"))},
		{"7 al invoke lock k take", call(7, "al", api.Lock, "k", api.Take)},
		{"8 al invoke omap k scan 1 9 ;a ;b", with("a ;b", call(8, "al", api.Ordered, "k", api.Scan, isInt(1), isInt(9)))},
		{"0 al ok 1 v 2 w", done(0, "al", isInt(1), isWord("v"), isInt(2), isWord("w"))},
	}
}

// history answers the text of rows, and their events.
func history(rows ...row) (string, []api.Event) {
	text := ""
	var h []api.Event
	for _, r := range rows {
		text += r.line + "\n"
		h = append(h, r.event)
	}
	return text, h
}

// fault is a line that isn't an event's, and its error.
type fault struct {
	line string
	code api.Errno
}

const great = "99999999999999999999"

func faults() []fault {
	return []fault{
		{"", api.ErrSyntax}, {" ", api.ErrSyntax}, {"x", api.ErrSyntax}, {";", api.ErrSyntax}, {" ;n", api.ErrSyntax},
		{"5", api.ErrSyntax}, {"5 a", api.ErrSyntax}, {"5 a okay", api.ErrSyntax}, {"5 a ok ", api.ErrSyntax}, {" 5 a ok", api.ErrSyntax},
		{"5 a ok\r", api.ErrSyntax}, {"5 a ok\x00", api.ErrSyntax}, {"5 a ok;n", api.ErrSyntax}, {"05 a ok", api.ErrSyntax}, {"-5 a ok", api.ErrSyntax},
		{"5 ~ ok", api.ErrSyntax}, {"5 a fail 7", api.ErrSyntax}, {"5 a invoke reg x pop", api.ErrSyntax}, {"5 a invoke reg x write", api.ErrSyntax},
		{"5 a ok ;" + strings.Repeat("n", 101), api.ErrSyntax}, {"5 a ok A " + great, api.ErrSyntax},
		{great + " a ok", api.ErrNumber}, {"9223372036854775808 a ok", api.ErrNumber}, {"5 " + great + " ok", api.ErrNumber},
		{"5 a ok " + great, api.ErrNumber}, {"5 a ok -" + great + " A ;n", api.ErrNumber}, {"5 a invoke reg " + great + " pop", api.ErrNumber},
	}
}

// many is so many of s, one behind the other.
func many(s string, times int) string { return strings.Repeat(s, times) }

// P11.1: Parse.

func TestTheEmptyText(t *testing.T) {
	checkTold(t, "", nil)
	if h, f := Parse(""); len(h) != 0 || f != (api.Fail{}) {
		t.Errorf("Parse of the empty text = %v, %v", h, f)
	}
}

func TestOneLine(t *testing.T) {
	for _, r := range rows() {
		checkTold(t, r.line+"\n", []api.Event{r.event})
	}
}

func TestManyLines(t *testing.T) {
	all := rows()
	text, h := history(all...)
	checkTold(t, text, h)
	for from := range len(all) + 1 {
		for to := from; to <= len(all); to++ {
			text, h := history(all[from:to]...)
			checkTold(t, text, h)
		}
	}
	// In the order of the lines, whichever that is.
	slices.Reverse(all)
	text, h = history(all...)
	checkTold(t, text, h)
	for _, a := range all {
		for _, b := range all {
			text, h := history(a, b, b, a)
			checkTold(t, text, h)
		}
	}
}

// A text's events needn't come to a history that is well-formed.
func TestLinesThatDoNotGoTogether(t *testing.T) {
	checkTold(t, "9 a ok 5\n5 a ok T\n", []api.Event{done(9, "a", isInt(5)), done(5, "a", yes)})
	invoke := call(7, "a", api.Lock, "k", api.Take)
	checkTold(t, "7 a invoke lock k take\n7 a invoke lock k take\n6 b fail\n7 a ok 1 2 3\n5 a info\n4 a invoke lock k take\n",
		[]api.Event{invoke, invoke, failed(6, "b"), done(7, "a", isInt(1), isInt(2), isInt(3)), info(5, "a"), call(4, "a", api.Lock, "k", api.Take)})
}

func TestALastLineWithoutAnEnd(t *testing.T) {
	for _, r := range rows() {
		checkFault(t, r.line, failAt(api.ErrSyntax, 1))
		for lines := range 6 {
			text, _ := history(slices.Repeat([]row{r}, lines)...)
			checkFault(t, text+r.line, failAt(api.ErrSyntax, lines+1))
			checkFault(t, text+"x", failAt(api.ErrSyntax, lines+1))
			checkFault(t, text+" ", failAt(api.ErrSyntax, lines+1))
			checkFault(t, text+"\r", failAt(api.ErrSyntax, lines+1))
			checkFault(t, text+great+" a ok", failAt(api.ErrSyntax, lines+1))
		}
	}
	// Each text that is cut off within a line.
	text, h := history(rows()...)
	lines := 0
	for to := range len(text) {
		if to == 0 || text[to-1] == '\n' {
			lines = strings.Count(text[:to], "\n")
			checkTold(t, text[:to], h[:lines])
			continue
		}
		checkFault(t, text[:to], failAt(api.ErrSyntax, lines+1))
	}
}

func TestEmptyLines(t *testing.T) {
	checkFault(t, "\n", failAt(api.ErrSyntax, 1))
	checkFault(t, "\n\n", failAt(api.ErrSyntax, 1))
	checkFault(t, many("\n", 4096), failAt(api.ErrSyntax, 1))
	checkFault(t, many("\n", 9000), failAt(api.ErrSyntax, 1))
	// Ahead, between and behind.
	all := rows()
	for place := range len(all) + 1 {
		for _, empty := range []string{"\n", "\n\n", "\n\n\n"} {
			ahead, _ := history(all[:place]...)
			behind, _ := history(all[place:]...)
			checkFault(t, ahead+empty+behind, failAt(api.ErrSyntax, place+1))
			checkFault(t, ahead+empty, failAt(api.ErrSyntax, place+1))
			checkFault(t, empty+behind, failAt(api.ErrSyntax, 1))
		}
	}
	// Without an end they aren't there.
	checkTold(t, "5 a ok\n", []api.Event{done(5, "a")})
	checkFault(t, "5 a ok\n\n", failAt(api.ErrSyntax, 2))
	checkFault(t, "\n5 a ok\n", failAt(api.ErrSyntax, 1))
	checkFault(t, "5 a ok\n\n6 a ok\n", failAt(api.ErrSyntax, 2))
}

// Each line that is wrong, as the first, as one within, as the last, and alone.
func TestALineThatIsWrong(t *testing.T) {
	all := rows()
	for _, wrong := range faults() {
		checkFault(t, wrong.line+"\n", failAt(wrong.code, 1))
		for place := range len(all) + 1 {
			ahead, _ := history(all[:place]...)
			behind, _ := history(all[place:]...)
			checkFault(t, ahead+wrong.line+"\n"+behind, failAt(wrong.code, place+1))
			checkFault(t, ahead+wrong.line+"\n", failAt(wrong.code, place+1))
		}
	}
	checkFault(t, "0 a ok\n1 a ko\n2 a ok\n", failAt(api.ErrSyntax, 2))
	checkFault(t, "0 a ok\n1 a ok\n2 a ok "+great+"\n", failAt(api.ErrNumber, 3))
}

// Only the byte 10 ends a line.
func TestEachByteForAnEnd(t *testing.T) {
	for c := range 256 {
		b := string([]byte{byte(c)})
		for _, text := range []string{"5 a ok" + b + "6 a ok\n", "5 a ok" + b, "5 a ok\n" + b, b, b + "\n", "5 a ok ;n" + b + "6 a ok\n", b + "5 a ok\n", "5 a ok\n" + b + "6 a ok\n"} {
			checkText(t, text)
		}
	}
	checkTold(t, "5 a ok ;n\r6 a ok\n", []api.Event{with("n\r6 a ok", done(5, "a"))})
	checkTold(t, "5 a ok ;n\n6 a ok\n", []api.Event{with("n", done(5, "a")), done(6, "a")})
	checkFault(t, "5 a ok\r\n6 a ok\r\n", failAt(api.ErrSyntax, 1))
	checkFault(t, "5 a ok\r6 a ok\r", failAt(api.ErrSyntax, 1))
}

// Of several faults the first is told: a last line without an end, and then line by line.
func TestTheFirstFault(t *testing.T) {
	number, syntax := great+" a ok\n", "1 a ko\n"
	for _, c := range []struct {
		text string
		want api.Fail
	}{
		{number + syntax, failAt(api.ErrNumber, 1)},
		{syntax + number, failAt(api.ErrSyntax, 1)},
		{"5 a ok\n" + number + syntax + number, failAt(api.ErrNumber, 2)},
		{"5 a ok\n" + syntax + number + syntax, failAt(api.ErrSyntax, 2)},
		{"5 a ok\n" + syntax + "5 a ok\n" + syntax, failAt(api.ErrSyntax, 2)},
		{"\n" + number, failAt(api.ErrSyntax, 1)},
		{number + "\n", failAt(api.ErrNumber, 1)},
		{number + "5", failAt(api.ErrSyntax, 2)},
		{number + "5 a ok", failAt(api.ErrSyntax, 2)},
		{number + number + "5 a ok", failAt(api.ErrSyntax, 3)},
		{number + syntax + number + great + " a ok", failAt(api.ErrSyntax, 4)},
		{syntax + "5 a ok\n" + "5 a ok", failAt(api.ErrSyntax, 3)},
		{"0 a ok\n1 a ko\n2 a ok", failAt(api.ErrSyntax, 3)},
		{"\n\nx", failAt(api.ErrSyntax, 3)},
	} {
		checkFault(t, c.text, c.want)
	}
	for _, a := range faults() {
		for _, b := range faults() {
			checkFault(t, a.line+"\n"+b.line+"\n", failAt(a.code, 1))
			checkFault(t, "5 a ok\n"+a.line+"\n6 a ok\n"+b.line+"\n7 a ok\n", failAt(a.code, 2))
			if b.line != "" {
				checkFault(t, "5 a ok\n"+a.line+"\n"+b.line, failAt(api.ErrSyntax, 3))
			}
		}
	}
}

// Every text of few lines, with and without the last one's end.
func TestEveryTextOfFewLines(t *testing.T) {
	lines := []string{"5 a ok", "0 b invoke reg x write 7 ;n", "6 a ko", great + " a ok", ""}
	texts := []string{""}
	for from := 0; len(texts) < 4000; {
		to := len(texts)
		for ; from < to; from++ {
			for _, s := range lines {
				texts = append(texts, texts[from]+s+"\n")
			}
		}
	}
	for _, text := range texts {
		checkText(t, text)
		checkText(t, strings.TrimSuffix(text, "\n"))
	}
}

// Every text of a few bytes.
func TestEveryShortText(t *testing.T) {
	texts := []string{""}
	for from := 0; len(texts) < 20000; {
		to := len(texts)
		for ; from < to; from++ {
			for _, c := range "5a ;\nok" {
				texts = append(texts, texts[from]+string(c))
			}
		}
	}
	for _, s := range texts {
		checkText(t, s)
		checkText(t, "5 a ok"+s)
		checkText(t, "5 a ok\n5 a "+s+"\n")
	}
}

// P11.1: ErrMany.

// eventOf is the event of line i, from 1 on, of a text of many lines, and its line.
func eventOf(i int) row {
	time := int64(i * 3)
	switch i % 4 {
	case 0:
		return row{fmt.Sprint(time, " a info"), info(time, "a")}
	case 1:
		return row{fmt.Sprint(time, " b invoke set k add ", i), call(time, "b", api.Set, "k", api.Add, isInt(int64(i)))}
	case 2:
		return row{fmt.Sprint(time, " c ok ", i, " ;", i), with(fmt.Sprint(i), done(time, "c", isInt(int64(i))))}
	}
	return row{fmt.Sprint(time, " d fail"), failed(time, "d")}
}

// ofLines answers so many lines, and their events.
func ofLines(count int) ([]string, []api.Event) {
	var lines []string
	var h []api.Event
	for i := 1; i <= count; i++ {
		r := eventOf(i)
		lines = append(lines, r.line)
		h = append(h, r.event)
	}
	return lines, h
}

// textOf is the text of lines.
func textOf(lines []string) string { return strings.Join(lines, "\n") + "\n" }

func TestAsManyLinesAsThereMayBe(t *testing.T) {
	for _, count := range []int{1, 255, 256, 1000, 2048, 4094, 4095, 4096} {
		lines, h := ofLines(count)
		checkTold(t, textOf(lines), h)
		checkFault(t, textOf(lines)+"5 a ok", failAt(api.ErrSyntax, count+1))
	}
	checkTold(t, many("0 a ok\n", 4096), slices.Repeat([]api.Event{done(0, "a")}, 4096))
	if api.MaxEvents != 4096 {
		t.Errorf("MaxEvents is %d", api.MaxEvents)
	}
}

func TestMoreLinesThanThereMayBe(t *testing.T) {
	for _, count := range []int{4097, 4098, 5000, 8191, 8192, 8193, 40960} {
		lines, h := ofLines(count)
		text := textOf(lines)
		checkFault(t, text, failAt(api.ErrMany, 4097))
		checkFault(t, strings.TrimSuffix(text, "\n"), failAt(api.ErrSyntax, count))
		// Print has a text of any number of events.
		checkPrint(t, text, h...)
	}
	checkFault(t, many("0 a ok\n", 200000), failAt(api.ErrMany, 4097))
}

// Of a line too many it doesn't count what stands in it; of one up to MaxEvents it does.
func TestAFaultAmongManyLines(t *testing.T) {
	for _, count := range []int{4095, 4096, 4097, 4098, 5000, 9000} {
		lines, _ := ofLines(count)
		for _, wrong := range []fault{{"", api.ErrSyntax}, {"x", api.ErrSyntax}, {great + " a ok", api.ErrNumber}, {"5 a ok " + great + " A", api.ErrNumber}} {
			for _, at := range []int{1, 2, 2048, 4094, 4095, 4096, 4097, 4098, 5000, 9000} {
				if at > count {
					continue
				}
				odd := slices.Clone(lines)
				odd[at-1] = wrong.line
				want := failAt(wrong.code, at)
				if at > 4096 {
					want = failAt(api.ErrMany, 4097)
				}
				checkFault(t, textOf(odd), want)
				// A last line without an end is told ahead of all.
				checkFault(t, textOf(odd)+"5 a ok", failAt(api.ErrSyntax, count+1))
				checkFault(t, textOf(odd)+wrong.line+" ", failAt(api.ErrSyntax, count+1))
			}
		}
	}
	checkFault(t, many("0 a ok\n", 4096)+"x\n", failAt(api.ErrMany, 4097))
	checkFault(t, many("0 a ok\n", 4096)+"\n", failAt(api.ErrMany, 4097))
	checkFault(t, many("0 a ok\n", 4095)+"x\n0 a ok\n", failAt(api.ErrSyntax, 4096))
	checkFault(t, "x\n"+many("0 a ok\n", 4096), failAt(api.ErrSyntax, 1))
	checkFault(t, many("0 a ok\n", 4096)+great+" a ok\n", failAt(api.ErrMany, 4097))
	checkFault(t, many("x\n", 9000), failAt(api.ErrSyntax, 1))
}

// P11.1: Print.

func TestPrint(t *testing.T) {
	checkPrint(t, "")
	checkPrint(t, "", []api.Event{}...)
	checkPrint(t, "0 a invoke reg x write 5\n", call(0, "a", api.Register, "x", api.Write, isInt(5)))
	checkPrint(t, "2 a ok\n", done(2, "a"))
	checkPrint(t, "2 a ok 5 ~ T\n", done(2, "a", isInt(5), nothing, yes))
	checkPrint(t, "2 a fail\n", failed(2, "a"))
	checkPrint(t, "2 a info\n", info(2, "a"))
	checkPrint(t, "0 a invoke reg x read ;why\n", with("why", call(0, "a", api.Register, "x", api.Read)))
	checkPrint(t, "2 a ok ;n\n", with("n", done(2, "a")))
	checkPrint(t, "2 a fail ;\n", with("", failed(2, "a")))
	checkPrint(t, "2 a info ; ;n\n", with(" ;n", info(2, "a")))
	checkPrint(t, "2 a fail\n2 a fail\n1 b info ;n\n", failed(2, "a"), failed(2, "a"), with("n", info(1, "b")))
	for _, r := range rows() {
		checkPrint(t, r.line+"\n", r.event)
		checkPrint(t, r.line+"\n"+r.line+"\n", r.event, r.event)
	}
	text, h := history(rows()...)
	checkPrint(t, text, h...)
}

// wrongEvents answers events that aren't right.
func wrongEvents() []api.Event {
	list := []api.Event{
		{}, done(-1, "a"), done(5, "A"), done(5, "a", isWord("")), {Client: isWord("a")}, {Client: isWord("a"), Type: 5},
		{Type: api.Info}, {Type: api.Failed, Client: yes}, {Type: api.Info, Client: isWord("a"), Note: "n"},
		with("a\nb", info(5, "a")), with("\n", failed(5, "a")), with(strings.Repeat("n", 101), done(5, "a")),
		call(5, "a", api.Register, "x", api.Pop), call(5, "a", api.Register, "x", api.Write), call(5, "a", api.Register, "x", api.Read, isInt(7)),
		call(5, "a", api.Counter, "x", api.Add, isWord("b")), call(5, "a", 0, "x", api.Read), call(5, "a", 11, "x", api.Read),
	}
	odd := failed(5, "a")
	odd.Out = values(isInt(7))
	list = append(list, odd)
	odd = call(5, "a", api.Register, "x", api.Read)
	odd.Out = values(isInt(7))
	list = append(list, odd)
	odd = done(5, "a")
	odd.Key = isWord("x")
	return append(list, odd)
}

// Each event that isn't right, as the first, as one within, as the last, and alone.
func TestPrintOfWhatIsNotRight(t *testing.T) {
	_, all := history(rows()...)
	for _, wrong := range wrongEvents() {
		if event.Right(wrong) {
			t.Errorf("the test takes %#v wrongly", wrong)
		}
		checkPrint(t, "", wrong)
		checkPrint(t, "", wrong, wrong)
		for place := range len(all) + 1 {
			checkPrint(t, "", slices.Insert(slices.Clone(all), place, wrong)...)
			checkPrint(t, "", slices.Insert(slices.Clone(all[:place]), place, wrong)...)
		}
	}
	for _, count := range []int{4096, 4097, 9000} {
		for _, at := range []int{1, 2, count / 2, 4096, count} {
			_, h := ofLines(count)
			h[at-1].Time = -1
			checkPrint(t, "", h...)
		}
	}
}

// P11.2: what is parsed has just this text; what has a text is parsed to it.

// one answers one of the list.
func one[T any](r *rand.Rand, list []T) T { return list[r.Intn(len(list))] }

func anyValue(r *rand.Rand) api.Value {
	switch r.Intn(4) {
	case 0:
		return isInt(r.Int63() - r.Int63())
	case 1:
		return isInt(r.Int63n(9) - 4)
	}
	return isWord(one(r, []string{"a", "b", "al_1", "z9", strings.Repeat("w", 40)}))
}

// anyEvent answers an event; it is right.
func anyEvent(r *rand.Rand) api.Event {
	e := one(r, rows()).event
	e.Time = one(r, []int64{0, 1, r.Int63(), r.Int63n(100), math.MaxInt64})
	e.Client = anyValue(r)
	switch e.Type {
	case api.Invoke:
		e.Key = anyValue(r)
		for i := range e.Args {
			e.Args[i] = anyValue(r)
		}
	case api.Done:
		e.Out = nil
		for range r.Intn(5) {
			e.Out = append(e.Out, one(r, values(nothing, yes, no, anyValue(r), anyValue(r))))
		}
	}
	e.Noted, e.Note = false, ""
	if r.Intn(3) == 0 {
		return with(one(r, []string{"", "n", ";", " 5 a ok", "a ;b", "\r", "\xff", many("n", 100)}), e)
	}
	return e
}

func TestWhatHasATextIsParsedToIt(t *testing.T) {
	r := rand.New(rand.NewSource(11))
	for i := range 3000 {
		count := r.Intn(12)
		if i%300 == 0 {
			count = one(r, []int{100, 1000, 4095, 4096})
		}
		var h []api.Event
		for range count {
			h = append(h, anyEvent(r))
		}
		text := Print(h...)
		if text == "" && count > 0 {
			t.Errorf("the test has events without a text: %s", short(h))
		}
		checkTold(t, text, h)
	}
	for range 5 {
		var h []api.Event
		for range 4097 + r.Intn(2000) {
			h = append(h, anyEvent(r))
		}
		text := Print(h...)
		checkPrint(t, text, h...)
		checkFault(t, text, failAt(api.ErrMany, 4097))
		checkTold(t, textOf(strings.Split(text, "\n")[:4096]), h[:4096])
	}
}

// Texts of lines that mostly are right, of which some bytes are put elsewhere.
func TestWhatIsParsedHasThisText(t *testing.T) {
	r := rand.New(rand.NewSource(12))
	told := 0
	for range 20000 {
		var h []api.Event
		for range r.Intn(5) {
			h = append(h, anyEvent(r))
		}
		b := []byte(Print(h...))
		for range r.Intn(3) {
			c := one(r, []byte("\n\n \n;5a\rA~T0\x00\xff"))
			at := r.Intn(len(b) + 1)
			switch {
			case at == len(b) || r.Intn(3) == 0:
				b = slices.Insert(b, at, c)
			case r.Intn(2) == 0:
				b[at] = c
			default:
				b = slices.Delete(b, at, at+1)
			}
		}
		checkText(t, string(b))
		if h, f := Parse(string(b)); f.Code == api.OK && len(h) > 0 {
			told++
		}
	}
	if told < 2000 || told > 18000 {
		t.Errorf("%d of them are told", told)
	}
}

// Lines one by one: what each comes to doesn't hang on those around it.
func TestEachLineByItself(t *testing.T) {
	r := rand.New(rand.NewSource(13))
	for range 2000 {
		text, at := "", 0
		var code api.Errno
		for i := range 1 + r.Intn(6) {
			s := one(r, rows()).line
			if r.Intn(4) == 0 {
				wrong := one(r, faults())
				s = wrong.line
				if at == 0 {
					at, code = i+1, wrong.code
				}
			}
			text += s + "\n"
		}
		if at > 0 {
			checkFault(t, text, failAt(code, at))
		} else {
			checkText(t, text)
		}
	}
}

func TestLongTexts(t *testing.T) {
	long := "5 a ok" + many(" 7 ~ T", 20000)
	checkText(t, many(long+"\n", 3))
	checkFault(t, many(long+"\n", 3)+long, failAt(api.ErrSyntax, 4))
	checkFault(t, long+"\n"+long+" A\n", failAt(api.ErrSyntax, 2))
	checkFault(t, long+"\n"+long+" "+great+"\n"+long+" A\n", failAt(api.ErrNumber, 2))
	checkFault(t, many("x", 1<<20), failAt(api.ErrSyntax, 1))
	checkFault(t, many("x", 1<<20)+"\n", failAt(api.ErrSyntax, 1))
	checkFault(t, many("9", 1<<16)+" a ok\n", failAt(api.ErrNumber, 1))
	checkFault(t, many("\n", 1<<20), failAt(api.ErrSyntax, 1))
	checkFault(t, many("\n", 1<<20)+"x", failAt(api.ErrSyntax, 1<<20+1))
}

func FuzzHist(f *testing.F) {
	text, _ := history(rows()...)
	f.Add(text)
	f.Add("")
	f.Add("5 a ok\n\n6 a ok")
	for _, r := range rows() {
		f.Add(r.line + "\n")
	}
	for _, wrong := range faults() {
		f.Add("5 a ok\n" + wrong.line + "\n6 a ok\n")
	}
	f.Fuzz(func(t *testing.T, text string) { checkText(t, text) })
}

// The two examples of the chapter.
func TestExamples(t *testing.T) {
	if h, f := Parse(""); len(h) != 0 || f != (api.Fail{}) {
		t.Errorf("the empty text: %v, %v", h, f)
	}
	if h, f := Parse("5 a ok"); len(h) != 0 || f != (api.Fail{Code: api.ErrSyntax, Line: 1}) {
		t.Errorf("5 a ok without an end: %v, %v", h, f)
	}
}

// R3: no list and an empty one are one.
func TestNoListAndAnEmptyOne(t *testing.T) {
	for _, r := range rows() {
		e := r.event
		if len(e.Args) == 0 {
			e.Args = make([]api.Value, 0, 9)
		}
		if len(e.Out) == 0 {
			e.Out = []api.Value{}
		}
		checkPrint(t, r.line+"\n", e)
	}
	checkPrint(t, "", make([]api.Event, 0, 9)...)
}

// R4: what is handed in isn't changed, spare room included.
func TestWhatIsHandedInStays(t *testing.T) {
	spare := values(isWord("s"), isInt(9), api.Value{Kind: 7})
	for _, behind := range append(wrongEvents(), info(9, "z")) {
		h, want := make([]api.Event, 0, 30), make([]api.Event, 0, 30)
		for _, r := range append(rows(), row{event: behind}) {
			e := r.event
			args, out := append(slices.Clone(e.Args), spare...), append(slices.Clone(e.Out), spare...)
			e.Args, e.Out = args[:len(e.Args)], out[:len(e.Out)]
			h = append(h, e)
			e.Args, e.Out = slices.Clone(args), slices.Clone(out)
			want = append(want, e)
		}
		for count := range len(h) + 1 {
			Print(h[:count]...)
		}
		for i := range h {
			h[i].Args = h[i].Args[:len(h[i].Args)+len(spare)]
			h[i].Out = h[i].Out[:len(h[i].Out)+len(spare)]
		}
		if !same(h[:cap(h)], want[:cap(want)]) {
			t.Fatalf("what was handed in is %s", short(h))
		}
	}
	text, _ := history(rows()...)
	b := []byte(text)
	Parse(string(b))
	if string(b) != text {
		t.Errorf("the text that was handed in is %q", b)
	}
}

// spoil overwrites all of a list, its spare room included.
func spoil(list []api.Value) {
	for i := range list[:cap(list)] {
		list[:cap(list)][i] = isWord("spoilt")
	}
}

// spoilAll overwrites all of a history, with the lists of its events.
func spoilAll(h []api.Event) {
	for _, e := range h {
		spoil(e.Args)
		spoil(e.Out)
	}
	for i := range h[:cap(h)] {
		h[:cap(h)][i] = api.Event{Time: -9, Note: "spoilt"}
	}
}

// R4: each answer is new, spare room included, and so is each list in it.
func TestAnswersAreNew(t *testing.T) {
	for _, times := range []int{1, 2, 7, 300} {
		text, want := history(slices.Repeat(rows(), times)...)
		first, _ := Parse(text)
		second, _ := Parse(text)
		spoilAll(first)
		if !same(second, want) {
			t.Fatalf("two answers share memory: %s", short(second))
		}
		for i := range second {
			spoil(second[i].Args)
			spoil(second[i].Out)
			second[i].Args, second[i].Out = want[i].Args, want[i].Out
			if !same(second, want) {
				t.Fatalf("two lists of one answer share memory: %s", short(second))
			}
		}
		checkTold(t, text, want)
	}
}

// R5: neither calls ahead of it nor their faults are told by a later call.
func TestAnswersHangOnNothingElse(t *testing.T) {
	text, h := history(rows()...)
	for _, wrong := range []string{"", "5 a ok", "\n", "5 a ko\n", great + " a ok\n", "5 a ok\n" + great + " a ok\n", many("5 a ok\n", 4097), many("5 a ok\n", 4096)} {
		Parse(wrong)
		Print(failed(3, "a"), api.Event{})
		Print(failed(3, "a"))
		checkTold(t, text, h)
		checkTold(t, "", nil)
		checkTold(t, "5 a ok\n", []api.Event{done(5, "a")})
		checkFault(t, "5 a ok", failAt(api.ErrSyntax, 1))
		checkFault(t, "5 a ok\n5 a ok "+great+"\n", failAt(api.ErrNumber, 2))
		checkPrint(t, "")
	}
}
