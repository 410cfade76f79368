package pair

import (
	"fmt"
	"math"
	"math/rand"
	"slices"
	"strings"
	"testing"

	"incognito/api"
	"incognito/event"
	"incognito/hist"
	"incognito/sign"
	"incognito/value"
)

// What the chapter says, looked up in the history itself, event by event; what a
// right event is is said by layer 10, and what a line's event is by layer 11.

// doing is what stands behind invoke in a line, and what may come out of it: a
// number or a word (v), one of these or nothing (v?), a number (n), yes or no (f),
// pairs of v's (vv*).
type doing struct {
	invoke, rule string
}

var doings = []doing{
	{"reg x write 5", ""}, {"reg x read", "v?"},
	{"cas x write 5", ""}, {"cas x read", "v?"}, {"cas x swap 5 al", "f"},
	{"set x add 5", ""}, {"set x del 5", ""}, {"set x has 5", "f"},
	{"map x put 5 al", ""}, {"map x get 5", "v?"}, {"map x del 5", ""},
	{"fifo x push 5", ""}, {"fifo x pop", "v?"},
	{"stack x push 5", ""}, {"stack x pop", "v?"},
	{"lock x take", "f"}, {"lock x free", "f"},
	{"count x add 5", ""}, {"count x read", "n"},
	{"max x write 5", ""}, {"max x read", "v?"},
	{"omap x put 5 al", ""}, {"omap x del 5", ""}, {"omap x scan 5 9", "vv*"},
}

// lineEvent is the event of a line.
func lineEvent(line string) api.Event {
	e, code := event.Parse(line)
	if code != api.OK {
		panic("the test has a line that is none: " + line)
	}
	return e
}

// history is the one of the lines, between which a / stands.
func history(lines string) []api.Event {
	var h []api.Event
	if lines == "" {
		return h
	}
	for _, line := range strings.Split(lines, "/") {
		h = append(h, lineEvent(line))
	}
	return h
}

// rules tells by model and by what is done what may come out.
var rules = func() map[[2]int]string {
	m := map[[2]int]string{}
	for _, d := range doings {
		e := lineEvent("0 a invoke " + d.invoke)
		m[[2]int{e.Model, e.Op}] = d.rule
	}
	return m
}()

// comes tells whether out, values that are right, may come out by the rule.
func comes(rule string, out []api.Value) bool {
	kinds := ""
	for _, v := range out {
		kinds += string("~nwf"[v.Kind])
	}
	named := strings.Trim(kinds, "nw") == ""
	switch rule {
	case "":
		return kinds == ""
	case "v?":
		return kinds == "n" || kinds == "w" || kinds == "~"
	case "vv*":
		return named && len(kinds)%2 == 0
	}
	return kinds == rule
}

func failAt(code api.Errno, line int) api.Fail { return api.Fail{Code: code, Line: line} }

// faultAt is the fault of the event at place, where none of those ahead has any.
func faultAt(h []api.Event, place int) api.Errno {
	e := h[place]
	switch {
	case place == 4096:
		return api.ErrMany
	case !event.Right(e):
		return api.ErrSyntax
	case place > 0 && e.Time < h[place-1].Time:
		return api.ErrForm
	}
	// Of one that is lost nothing that has no fault stands behind its Info.
	call := place - 1
	for call >= 0 && h[call].Client != e.Client {
		call--
	}
	busy := call >= 0 && h[call].Type == api.Invoke
	lost := call >= 0 && h[call].Type == api.Info
	switch {
	case e.Type == api.Invoke && (busy || lost), e.Type != api.Invoke && !busy:
		return api.ErrForm
	case e.Type == api.Done && !comes(rules[[2]int{h[call].Model, h[call].Op}], e.Out):
		return api.ErrForm
	}
	return api.OK
}

// faultOf is what Check is to answer.
func faultOf(h []api.Event) api.Fail {
	for place := range h {
		if code := faultAt(h, place); code != api.OK {
			return failAt(code, place+1)
		}
	}
	return api.Fail{}
}

// opersOf is what Opers is to answer of a history without a fault.
func opersOf(h []api.Event) []api.Oper {
	var list []api.Oper
	for call, e := range h {
		if e.Type != api.Invoke {
			continue
		}
		o := api.Oper{Client: e.Client, Model: e.Model, Key: e.Key, Op: e.Op, Args: e.Args, Call: call, Ret: -1}
		next := slices.IndexFunc(h[call+1:], func(behind api.Event) bool { return behind.Client == e.Client })
		if next >= 0 {
			switch end := call + 1 + next; h[end].Type {
			case api.Failed:
				continue
			case api.Done:
				o.Ret, o.Out = end, h[end].Out
			}
		}
		list = append(list, o)
	}
	return list
}

// sameOper tells whether two operations are one, by R3.
func sameOper(a, b api.Oper) bool {
	return a.Client == b.Client && a.Model == b.Model && a.Key == b.Key && a.Op == b.Op &&
		slices.Equal(a.Args, b.Args) && slices.Equal(a.Out, b.Out) && a.Call == b.Call && a.Ret == b.Ret
}

func sameOpers(a, b []api.Oper) bool { return slices.EqualFunc(a, b, sameOper) }

// sameEvent tells whether two events are one, by R3.
func sameEvent(a, b api.Event) bool {
	return a.Time == b.Time && a.Client == b.Client && a.Type == b.Type && a.Model == b.Model &&
		a.Key == b.Key && a.Op == b.Op && slices.Equal(a.Args, b.Args) && slices.Equal(a.Out, b.Out) &&
		a.Noted == b.Noted && a.Note == b.Note
}

func sameHistory(a, b []api.Event) bool { return slices.EqualFunc(a, b, sameEvent) }

// short is what a fault of the tests tells of a history.
func short(h []api.Event) string {
	text := strings.ReplaceAll(hist.Print(h...), "\n", "/")
	if text == "" {
		text = fmt.Sprint(h[:min(len(h), 8)])
	}
	return fmt.Sprintf("%d events %.300s", len(h), text)
}

// told is what an operation comes to, in short.
func told(o api.Oper) string {
	words := []string{value.Print(o.Client), sign.ModelName(o.Model), value.Print(o.Key), sign.OpName(o.Op)}
	for _, v := range o.Args {
		words = append(words, value.Print(v))
	}
	words = append(words, fmt.Sprintf("%d to %d", o.Call, o.Ret))
	for _, v := range o.Out {
		words = append(words, value.Print(v))
	}
	return strings.Join(words, " ")
}

func allTold(list []api.Oper) string {
	var words []string
	for _, o := range list {
		words = append(words, told(o))
	}
	return strings.Join(words, "/")
}

// The checks end their test where they fail: most are made thousands of times.

// checkFault holds Check and Opers of h against the fault.
func checkFault(t *testing.T, h []api.Event, want api.Fail) {
	t.Helper()
	if f := Check(h); f != want {
		t.Fatalf("Check(%s) = %v, want %v", short(h), f, want)
	}
	if l, f := Opers(h); f != want || len(l) != 0 {
		t.Fatalf("Opers(%s) = %.300s, %v, want nothing, %v", short(h), allTold(l), f, want)
	}
	if f := faultOf(h); f != want {
		t.Fatalf("the test takes %s wrongly: %v, want %v", short(h), f, want)
	}
}

// checkOpers holds Check and Opers of h, which is well-formed, against its
// operations.
func checkOpers(t *testing.T, h []api.Event, want []api.Oper) {
	t.Helper()
	if f := Check(h); f != (api.Fail{}) {
		t.Fatalf("Check(%s) = %v", short(h), f)
	}
	l, f := Opers(h)
	if f != (api.Fail{}) || !sameOpers(l, want) {
		t.Fatalf("Opers(%s) = %.300s, %v, want %.300s", short(h), allTold(l), f, allTold(want))
	}
	checkTurns(t, h, l)
}

// checkTurns holds the operations of h against P12.3.
func checkTurns(t *testing.T, h []api.Event, l []api.Oper) {
	t.Helper()
	last := map[api.Value]api.Oper{}
	for i, o := range l {
		if i > 0 && o.Call <= l[i-1].Call {
			t.Fatalf("Opers(%s) = %.300s: the calls don't rise", short(h), allTold(l))
		}
		if ahead, ok := last[o.Client]; ok && (ahead.Ret <= ahead.Call || ahead.Ret >= o.Call) {
			t.Fatalf("Opers(%s) = %.300s: %s didn't come back ahead of %s", short(h), allTold(l), told(ahead), told(o))
		}
		last[o.Client] = o
	}
}

// checkHistory holds Check and Opers against what the test takes h for.
func checkHistory(t *testing.T, h []api.Event) {
	t.Helper()
	if f := faultOf(h); f.Code != api.OK {
		checkFault(t, h, f)
	} else {
		checkOpers(t, h, opersOf(h))
	}
}

// checkForm holds the history of the lines against ErrForm at a line.
func checkForm(t *testing.T, lines string, line int) {
	t.Helper()
	checkFault(t, history(lines), failAt(api.ErrForm, line))
}

// checkTold holds the history of the lines against its operations in short.
func checkTold(t *testing.T, lines, want string) {
	t.Helper()
	h := history(lines)
	checkOpers(t, h, opersOf(h))
	if l, _ := Opers(h); allTold(l) != want {
		t.Fatalf("Opers(%s) = %s, want %s", lines, allTold(l), want)
	}
}

// P12.1: histories that are well-formed.

func TestNoEvent(t *testing.T) {
	for _, h := range [][]api.Event{nil, {}, make([]api.Event, 0, 9)} {
		checkOpers(t, h, nil)
	}
}

func TestOneEvent(t *testing.T) {
	for _, d := range doings {
		h := history("7 a invoke " + d.invoke)
		checkOpers(t, h, opersOf(h))
	}
	for _, back := range []string{"ok", "ok 5", "ok ~", "ok T", "fail", "info"} {
		checkForm(t, "0 a "+back, 1)
		checkForm(t, "7 12 "+back+" ;n", 1)
	}
}

func TestOneClient(t *testing.T) {
	checkTold(t, "0 a invoke reg x write 5/1 a ok/1 a invoke reg x read/2 a ok 5/2 a invoke reg x read/2 a ok ~",
		"a reg x write 5 0 to 1/a reg x read 2 to 3 5/a reg x read 4 to 5 ~")
	checkTold(t, "0 a invoke cas x swap 1 b/0 a ok T/0 a invoke cas x swap b 1/0 a ok F/0 a invoke cas x read",
		"a cas x swap 1 b 0 to 1 T/a cas x swap b 1 2 to 3 F/a cas x read 4 to -1")
}

func TestClientsThatCross(t *testing.T) {
	checkTold(t, "0 a invoke reg x write 5/1 b invoke reg x read/2 a ok/3 b ok 5",
		"a reg x write 5 0 to 2/b reg x read 1 to 3 5")
	checkTold(t, "0 a invoke reg x write 5/1 b invoke reg x read/2 b ok 5/3 a ok",
		"a reg x write 5 0 to 3/b reg x read 1 to 2 5")
	checkTold(t, "0 a invoke lock l take/0 b invoke lock l take/0 c invoke lock l free/0 c ok F/0 b ok T/0 b invoke lock l free/0 a ok F/0 b ok T",
		"a lock l take 0 to 6 F/b lock l take 1 to 4 T/c lock l free 2 to 3 F/b lock l free 5 to 7 T")
	checkTold(t, "0 1 invoke count c add -3/0 2 invoke count c read/1 3 invoke omap m scan a z/1 2 ok -3/2 3 ok b 1 c 2/2 1 ok",
		"1 count c add -3 0 to 5/2 count c read 1 to 3 -3/3 omap m scan a z 2 to 4 b 1 c 2")
}

// The history of many clients, all of which are busy side by side.
func TestManyClients(t *testing.T) {
	for _, clients := range []int{1, 2, 100, 1000, 2048} {
		var h []api.Event
		var want []api.Oper
		for i := range clients {
			e := lineEvent(fmt.Sprintf("%d c%d invoke fifo q push %d", i, i, i))
			h = append(h, e)
			want = append(want, api.Oper{Client: e.Client, Model: api.Fifo, Key: e.Key, Op: api.Push, Args: e.Args, Call: i, Ret: 2*clients - 1 - i})
		}
		for i := range clients {
			h = append(h, lineEvent(fmt.Sprintf("%d c%d ok", clients+i, clients-1-i)))
		}
		checkOpers(t, h, want)
		// The last one is still away, and then none of them is.
		want[0].Ret = -1
		checkOpers(t, h[:len(h)-1], want)
		checkFault(t, append(h[:len(h)-1:len(h)-1], lineEvent("9999 d ok")), failAt(api.ErrForm, len(h)))
	}
}

// P12.1: each of the errors, at each place.

const base = "0 a invoke reg x write 5/1 b invoke reg x read/2 a ok/3 b ok 5/3 a invoke set s add 1/4 a fail/5 b invoke fifo q pop/6 b info/7 a invoke lock l take"

// wrongEvents answers events that aren't right, of time 8 and client a but for what
// is wrong with them.
func wrongEvents() []api.Event {
	var list []api.Event
	odd := func(line string, change func(e *api.Event)) {
		e := lineEvent(line)
		change(&e)
		list = append(list, e)
	}
	for _, line := range []string{"8 a invoke reg x write 5", "8 a ok 5", "8 a fail", "8 a info"} {
		odd(line, func(e *api.Event) { *e = api.Event{} })
		odd(line, func(e *api.Event) { e.Time = -1 })
		odd(line, func(e *api.Event) { e.Time = math.MinInt64 })
		odd(line, func(e *api.Event) { e.Client = api.Value{} })
		odd(line, func(e *api.Event) { e.Client = api.Value{Kind: api.Bool} })
		odd(line, func(e *api.Event) { e.Client.S = "A" })
		odd(line, func(e *api.Event) { e.Client.N = 1 })
		odd(line, func(e *api.Event) { e.Client.Kind = 4 })
		odd(line, func(e *api.Event) { e.Type = 0 })
		odd(line, func(e *api.Event) { e.Type = 5 })
		odd(line, func(e *api.Event) { e.Type = -1 })
		odd(line, func(e *api.Event) { e.Note = "n" })
		odd(line, func(e *api.Event) { e.Noted, e.Note = true, "a\nb" })
		odd(line, func(e *api.Event) { e.Noted, e.Note = true, strings.Repeat("n", 101) })
		odd(line, func(e *api.Event) { e.Model = 11 })
		odd(line, func(e *api.Event) { e.Op = api.Pop })
		odd(line, func(e *api.Event) { e.Key = api.Value{Kind: api.Bool, N: 1} })
		odd(line, func(e *api.Event) { e.Args = []api.Value{{}} })
		odd(line, func(e *api.Event) { e.Out = []api.Value{{Kind: api.Word}} })
		odd(line, func(e *api.Event) { e.Out = []api.Value{{Kind: 9}} })
	}
	odd("8 a invoke reg x write 5", func(e *api.Event) { e.Out = []api.Value{{Kind: api.Int, N: 5}} })
	odd("8 a invoke reg x write 5", func(e *api.Event) { e.Args = nil })
	odd("8 a fail", func(e *api.Event) { e.Out = []api.Value{{Kind: api.Int, N: 5}} })
	odd("8 a info", func(e *api.Event) { e.Out = []api.Value{{}} })
	odd("8 a ok 5", func(e *api.Event) { e.Key = e.Client })
	return list
}

// An event that isn't right is ErrSyntax, whatever its time, its client and its type
// are ahead of it and behind it.
func TestAnEventThatIsNotRight(t *testing.T) {
	h := history(base)
	for _, wrong := range wrongEvents() {
		if event.Right(wrong) {
			t.Fatalf("the test takes %#v wrongly", wrong)
		}
		for place := range len(h) + 1 {
			want := failAt(api.ErrSyntax, place+1)
			checkFault(t, slices.Insert(slices.Clone(h), place, wrong), want)
			checkFault(t, slices.Insert(slices.Clone(h[:place]), place, wrong), want)
			checkFault(t, slices.Insert(slices.Clone(h), place, wrong, wrong), want)
			if wrong.Time >= 0 {
				// Below the time of the one ahead, the same, and above it.
				for _, time := range []int64{0, 7, math.MaxInt64} {
					wrong.Time = time
					checkFault(t, slices.Insert(slices.Clone(h), place, wrong), want)
				}
			}
			for _, client := range []string{"a", "b", "c"} {
				if wrong.Client == lineEvent("0 a ok").Client {
					other := wrong
					other.Client.S = client
					checkFault(t, slices.Insert(slices.Clone(h), place, other), want)
				}
			}
		}
	}
	checkFault(t, make([]api.Event, 1), failAt(api.ErrSyntax, 1))
	checkFault(t, make([]api.Event, 4097), failAt(api.ErrSyntax, 1))
	// What isn't right among what comes out isn't asked whether it may.
	odd := lineEvent("1 a ok 5")
	odd.Out = []api.Value{{Kind: api.Int, N: 5, S: "x"}}
	checkFault(t, append(history("0 a invoke reg x read"), odd), failAt(api.ErrSyntax, 2))
	checkFault(t, append(history("0 a invoke reg x write 5"), odd), failAt(api.ErrSyntax, 2))
	checkFault(t, append(history("2 b invoke reg x write 5"), odd), failAt(api.ErrSyntax, 2))
}

// A fault of form as the first event, as each one within, and as the last.
func TestAFaultOfForm(t *testing.T) {
	checkTold(t, base, "a reg x write 5 0 to 2/b reg x read 1 to 3 5/b fifo q pop 6 to -1/a lock l take 8 to -1")
	h := history(base)
	for place := range len(h) + 1 {
		for _, wrong := range []string{"c ok", "c fail", "c info", "c ok 5"} {
			e := lineEvent("9 " + wrong)
			if place > 0 {
				e.Time = h[place-1].Time
			} else {
				e.Time = 0
			}
			checkFault(t, slices.Insert(slices.Clone(h), place, e), failAt(api.ErrForm, place+1))
			checkFault(t, slices.Insert(slices.Clone(h[:place]), place, e), failAt(api.ErrForm, place+1))
		}
	}
	// Without one of its events a history has a fault where that lacks, or none.
	for place := range h {
		checkHistory(t, slices.Delete(slices.Clone(h), place, place+1))
	}
	checkForm(t, strings.TrimPrefix(base, "0 a invoke reg x write 5/"), 2)
	checkForm(t, strings.Replace(base, "2 a ok/", "", 1), 4)
	checkForm(t, base+"/8 a invoke lock l free", 10)
	checkForm(t, base+"/8 b invoke lock l free", 10)
	checkForm(t, base+"/6 c invoke lock l free", 10)
	checkForm(t, base+"/8 a ok 5", 10)
}

// P12.1: times.

func TestTimes(t *testing.T) {
	const greatest = math.MaxInt64
	for _, ahead := range []int64{0, 1, 2, 5, 9, 10, 99, 1 << 31, 1 << 32, greatest - 1, greatest} {
		for _, time := range []int64{0, 1, ahead - 1, ahead, ahead + 1, greatest - 1, greatest} {
			if time < 0 {
				continue
			}
			for _, lines := range []string{"%d a invoke reg x read/%d a ok 5", "%d a invoke reg x read/%d a fail", "%d a invoke reg x read/%d a info", "%d a invoke reg x read/%d b invoke reg x read"} {
				h := history(fmt.Sprintf(lines, ahead, time))
				if time < ahead {
					checkFault(t, h, failAt(api.ErrForm, 2))
				} else {
					checkOpers(t, h, opersOf(h))
				}
				// The same ahead of others, and behind them.
				checkHistory(t, slices.Concat(h, history("7 c invoke reg x read/9223372036854775807 c ok 5")))
				checkHistory(t, slices.Concat(history("0 c invoke reg x read/0 c ok 5"), h))
				checkHistory(t, slices.Concat(history("4 c invoke reg x read/5 c ok 5"), h))
			}
		}
	}
	checkTold(t, "0 a invoke reg x read/0 a ok 5", "a reg x read 0 to 1 5")
	checkTold(t, "9223372036854775807 a invoke reg x read/9223372036854775807 a ok 5", "a reg x read 0 to 1 5")
	checkTold(t, "0 a invoke reg x read/9223372036854775807 a ok 5", "a reg x read 0 to 1 5")
	checkForm(t, "9223372036854775807 a invoke reg x read/0 a ok 5", 2)
	checkForm(t, "9223372036854775807 a invoke reg x read/9223372036854775806 a ok 5", 2)
	// A time is held against that of the one ahead, whichever client that is of.
	checkForm(t, "5 a invoke reg x read/7 b invoke reg x read/6 a ok 5", 3)
	checkForm(t, "5 a invoke reg x read/7 a ok 5/6 b invoke reg x read", 3)
	checkForm(t, "5 a invoke reg x read/7 a fail/8 b invoke reg x read/7 b ok 5", 4)
}

// P12.1: whose turn it is.

func TestInvokes(t *testing.T) {
	read := "a invoke reg x read"
	checkTold(t, "0 "+read, "a reg x read 0 to -1")
	checkForm(t, "0 "+read+"/1 "+read, 2)
	checkForm(t, "0 "+read+"/1 b invoke reg x read/1 "+read, 3)
	checkForm(t, "0 "+read+"/1 a info/2 "+read, 3)
	checkForm(t, "0 "+read+"/1 a info/1 b invoke reg x read/2 b ok 5/9 "+read, 5)
	checkTold(t, "0 "+read+"/1 a ok 5/2 "+read, "a reg x read 0 to 1 5/a reg x read 2 to -1")
	checkTold(t, "0 "+read+"/1 a fail/2 "+read, "a reg x read 2 to -1")
	checkTold(t, "0 "+read+"/1 a fail/2 "+read+"/3 a fail/4 "+read+"/5 a ok 7", "a reg x read 4 to 5 7")
	checkForm(t, "0 "+read+"/1 a ok 5/2 "+read+"/3 "+read, 4)
	checkForm(t, "0 "+read+"/1 a fail/2 "+read+"/3 "+read, 4)
	// Lost is who was told of by an Info, whatever came ahead of it.
	checkForm(t, "0 "+read+"/1 a ok 5/2 "+read+"/3 a info/4 "+read, 5)
	checkForm(t, "0 "+read+"/1 a fail/2 "+read+"/3 a info/4 "+read, 5)
	// Each of what is invoked, of a client that is free, busy and lost.
	for _, d := range doings {
		invoke := "a invoke " + d.invoke
		h := history("0 " + read + "/1 a fail/2 " + invoke)
		checkOpers(t, h, opersOf(h))
		checkForm(t, "0 "+read+"/1 "+invoke, 2)
		checkForm(t, "0 "+invoke+"/1 "+read, 2)
		checkForm(t, "0 "+invoke+"/1 "+invoke, 2)
		checkForm(t, "0 "+invoke+"/1 a info/2 "+read, 3)
		checkForm(t, "0 "+read+"/1 a info/2 "+invoke, 3)
		checkTold(t, "0 "+invoke+"/1 a fail", "")
	}
}

func TestWhatComesBackOfNoOne(t *testing.T) {
	read := "0 a invoke reg x read/"
	for _, back := range []string{"ok 5", "fail", "info"} {
		// It never invoked.
		checkForm(t, "2 a "+back, 1)
		checkForm(t, "0 b invoke reg x read/2 a "+back, 2)
		checkForm(t, "0 b invoke reg x read/1 b ok 5/2 a "+back, 3)
		// It came back already.
		checkForm(t, read+"1 a ok 5/2 a "+back, 3)
		checkForm(t, read+"1 a fail/2 a "+back, 3)
		checkForm(t, read+"1 a ok 5/2 b invoke reg x read/2 a "+back, 4)
		checkForm(t, read+"1 a ok 5/1 a invoke reg x read/1 a fail/2 a "+back, 5)
		// It is lost.
		checkForm(t, read+"1 a info/2 a "+back, 3)
		checkForm(t, read+"1 a info/1 b invoke reg x read/2 a "+back, 4)
		checkForm(t, read+"1 a fail/1 a invoke reg x read/1 a info/2 a "+back, 5)
		// It is busy.
		h := history(read + "1 a " + back)
		checkOpers(t, h, opersOf(h))
		h = history(read + "1 a fail/1 a invoke reg x read/2 a " + back)
		checkOpers(t, h, opersOf(h))
		h = history(read + "1 b invoke reg x read/1 b info/2 a " + back)
		checkOpers(t, h, opersOf(h))
	}
}

// Clients are unlike, if anything of them is.
func TestClientsWhoseNamesBeginAlike(t *testing.T) {
	names := []string{"a", "aa", "ab", "a_", "a1", "al", "al_1", "al_10", "b", "x", strings.Repeat("w", 39), strings.Repeat("w", 40), strings.Repeat("w", 39) + "v", "0", "1", "-1", "10", "-10", "9223372036854775807", "-9223372036854775808", "4294967297"}
	for _, a := range names {
		for _, b := range names {
			put := func(lines string) string {
				return strings.NewReplacer("A", a, "B", b).Replace(lines)
			}
			if a == b {
				checkForm(t, put("0 A invoke reg x read/0 B invoke reg x read"), 2)
				checkTold(t, put("0 A invoke reg x read/0 B ok 5"), put("A reg x read 0 to 1 5"))
				continue
			}
			checkForm(t, put("0 A invoke reg x read/0 B ok 5"), 2)
			checkForm(t, put("0 A invoke reg x read/0 B fail"), 2)
			checkForm(t, put("0 A invoke reg x read/0 B info"), 2)
			checkTold(t, put("0 A invoke reg x read/0 B invoke reg x write 7/0 A ok 5/0 B ok"), put("A reg x read 0 to 2 5/B reg x write 7 1 to 3"))
			checkTold(t, put("0 A invoke reg x read/0 B invoke reg x write 7/0 B ok/0 A info"), put("A reg x read 0 to -1/B reg x write 7 1 to 2"))
			checkTold(t, put("0 A invoke reg x read/0 B invoke reg x write 7/0 A fail/0 B info"), put("B reg x write 7 1 to -1"))
			checkTold(t, put("0 A invoke reg x read/0 A info/0 B invoke reg x read/0 B ok ~"), put("A reg x read 0 to -1/B reg x read 2 to 3 ~"))
			checkForm(t, put("0 A invoke reg x read/0 B invoke reg x read/0 A ok 5/0 A fail"), 4)
		}
	}
	// A client isn't the thing of its name, nor a value.
	checkTold(t, "0 x invoke reg x write x/1 x ok/1 y invoke reg x write x", "x reg x write x 0 to 1/y reg x write x 2 to -1")
	checkForm(t, "0 x invoke reg y write z/1 y ok", 2)
	checkForm(t, "0 x invoke reg y write z/1 z ok", 2)
	// Whose things are of one name needn't be of one model.
	checkTold(t, "0 a invoke reg x read/0 b invoke fifo x pop/0 b ok 1/0 a ok 2", "a reg x read 0 to 3 2/b fifo x pop 1 to 2 1")
}

// P12.1: what comes out.

// shortLists answers all lists of up to most of the words, with a blank ahead of each.
func shortLists(words []string, most int) []string {
	lists := []string{""}
	for from := 0; most > 0; most-- {
		to := len(lists)
		for ; from < to; from++ {
			for _, word := range words {
				lists = append(lists, lists[from]+" "+word)
			}
		}
	}
	return lists
}

// For each model and each thing done with it, by the number of what comes out and by
// its kinds.
func TestWhatMayComeOut(t *testing.T) {
	for _, d := range doings {
		taken := 0
		for _, out := range shortLists([]string{"5", "-1", "al", "~", "T", "F"}, 3) {
			lines := "0 a invoke " + d.invoke + "/1 a ok" + out
			if h := history(lines); comes(d.rule, h[1].Out) {
				checkTold(t, lines, "a "+d.invoke+" 0 to 1"+out)
				taken++
			} else {
				checkForm(t, lines, 2)
			}
		}
		// The values that are a number or a word are three of the six.
		want := map[string]int{"": 1, "v?": 4, "n": 2, "f": 2, "vv*": 1 + 3*3}[d.rule]
		if taken != want {
			t.Errorf("the test takes %d for %s, want %d", taken, d.invoke, want)
		}
		for _, out := range []string{" 1 2 3 4", " 1 2 3 4 5", " a b c d e f", " a b c d e f g", " 1 2 ~ 4", " 1 2 3 T", strings.Repeat(" 1 a", 1000), strings.Repeat(" 1 a", 1000) + " 2"} {
			checkHistory(t, history("0 a invoke "+d.invoke+"/1 a ok"+out))
		}
	}
	checkForm(t, "0 a invoke reg x read/1 a ok", 2)
	checkForm(t, "0 a invoke reg x read/1 a ok T", 2)
	checkForm(t, "0 a invoke reg x read/1 a ok 5 5", 2)
	checkForm(t, "0 a invoke reg x write 5/1 a ok 5", 2)
	checkForm(t, "0 a invoke reg x write 5/1 a ok ~", 2)
	checkForm(t, "0 a invoke lock x take/1 a ok", 2)
	checkForm(t, "0 a invoke lock x take/1 a ok ~", 2)
	checkForm(t, "0 a invoke count x read/1 a ok b", 2)
	checkForm(t, "0 a invoke count x read/1 a ok ~", 2)
	checkForm(t, "0 a invoke omap x scan 1 9/1 a ok 5", 2)
	checkForm(t, "0 a invoke omap x scan 1 9/1 a ok 5 ~", 2)
	checkTold(t, "0 a invoke omap x scan 1 9/1 a ok", "a omap x scan 1 9 0 to 1")
}

// What the order of values or the state would forbid isn't asked here.
func TestWhatComesOutNeedNotBeTrue(t *testing.T) {
	checkTold(t, "0 a invoke reg x write 5/1 a ok/2 a invoke reg x read/3 a ok 7", "a reg x write 5 0 to 1/a reg x read 2 to 3 7")
	checkTold(t, "0 a invoke lock x free/1 a ok T/1 b invoke omap m scan 9 1/2 b ok 5 a 4 b", "a lock x free 0 to 1 T/b omap m scan 9 1 2 to 3 5 a 4 b")
}

// It is held against what its own client invoked last.
func TestWhatFitsAnotherInvoke(t *testing.T) {
	outs := map[string]string{"": "", "v?": " al", "n": " 5", "f": " T", "vv*": " 1 al"}
	for _, a := range doings {
		for _, b := range doings {
			out := outs[b.rule]
			fits := comes(a.rule, history("0 a ok" + out)[0].Out)
			lines := []string{
				// What another client invoked, ahead of it or behind it.
				"0 b invoke " + b.invoke + "/1 a invoke " + a.invoke + "/2 a ok" + out,
				"0 a invoke " + a.invoke + "/1 b invoke " + b.invoke + "/2 a ok" + out,
				// What it invoked before, and has failed.
				"0 a invoke " + b.invoke + "/1 a fail/1 a invoke " + a.invoke + "/2 a ok" + out,
				// What it invoked before, and is done.
				"0 a invoke " + b.invoke + "/1 a ok" + out + "/1 a invoke " + a.invoke + "/2 a ok" + out,
			}
			for _, s := range lines {
				h := history(s)
				if fits {
					checkOpers(t, h, opersOf(h))
				} else {
					checkFault(t, h, failAt(api.ErrForm, len(h)))
				}
			}
			checkHistory(t, history("0 a invoke "+a.invoke+"/1 b invoke "+b.invoke+"/2 b ok"+out+"/2 a ok"+outs[a.rule]))
		}
	}
	checkForm(t, "0 a invoke reg x write 5/1 b invoke reg x read/2 a ok 5/3 b ok", 3)
	checkForm(t, "0 a invoke reg x read/1 a ok 5/2 a invoke reg x write 5/3 a ok 5", 4)
	checkForm(t, "0 a invoke lock l take/1 a fail/2 a invoke reg x read/3 a ok T", 4)
	// What a client invokes later counts for nothing either.
	checkForm(t, "0 a invoke reg x write 5/1 a ok 5/2 a invoke reg x read", 2)
}

// P12.1: more events than there may be.

// ofEvents answers so many events, of some clients whose operations cross.
func ofEvents(count int) []api.Event {
	pattern := history("0 a invoke reg x write 5/0 b invoke set s has 1/0 a ok/0 12 invoke count c read ;n/0 b ok T/0 12 ok -7/0 a invoke omap m scan 1 9/0 a ok 5 al/0 b invoke lock l take/0 b fail ;why")
	var h []api.Event
	for i := range count {
		e := pattern[i%len(pattern)]
		e.Time = int64(i / 3)
		h = append(h, e)
	}
	return h
}

func TestAsManyEventsAsThereMayBe(t *testing.T) {
	if api.MaxEvents != 4096 {
		t.Errorf("MaxEvents is %d", api.MaxEvents)
	}
	for _, count := range []int{1, 2, 9, 10, 11, 255, 256, 257, 1000, 4094, 4095, 4096} {
		h := ofEvents(count)
		checkOpers(t, h, opersOf(h))
	}
	// Invokes alone.
	var h []api.Event
	for i := range 4096 {
		h = append(h, lineEvent(fmt.Sprintf("3 %d invoke reg x write %d", i, i)))
	}
	checkOpers(t, h, opersOf(h))
	if l, _ := Opers(h); len(l) != 4096 || l[4095].Call != 4095 || l[4095].Ret != -1 {
		t.Errorf("%d operations of 4096 Invokes", len(l))
	}
	// Operations one behind the other.
	checkTold(t, strings.Repeat("0 a invoke lock l take/0 a fail/", 2047)+"0 a invoke lock l take/0 a ok T", "a lock l take 4094 to 4095 T")
}

func TestMoreEventsThanThereMayBe(t *testing.T) {
	for _, count := range []int{4097, 4098, 4100, 5000, 8191, 8192, 8193, 100000} {
		checkFault(t, ofEvents(count), failAt(api.ErrMany, 4097))
	}
}

// Of an event too many it doesn't count what it is; of one up to MaxEvents it does.
func TestAFaultAmongManyEvents(t *testing.T) {
	for _, count := range []int{4095, 4096, 4097, 4098, 9000} {
		for _, at := range []int{1, 2, 2048, 4094, 4095, 4096, 4097, 4098, 9000} {
			if at > count {
				continue
			}
			for _, wrong := range []struct {
				code  api.Errno
				event api.Event
			}{
				{api.ErrSyntax, api.Event{}},
				{api.ErrSyntax, api.Event{Time: -1, Client: lineEvent("0 a ok").Client, Type: api.Done}},
				{api.ErrForm, lineEvent(fmt.Sprint(at/3, " d ok"))},
				{api.ErrForm, lineEvent(fmt.Sprint(at/3, " d info"))},
				{api.ErrForm, lineEvent(fmt.Sprint(at/3, " d ok 1 2 3"))},
			} {
				h := ofEvents(count)
				h[at-1] = wrong.event
				want := failAt(wrong.code, at)
				if at > 4096 {
					want = failAt(api.ErrMany, 4097)
				}
				checkFault(t, h, want)
			}
		}
	}
	// What would be the last one's fault of each kind, had there not been too many.
	for _, wrong := range []string{"0 a ok", "0 z ok", "9999 z ok", "9999 z fail", "9999 z info", "0 z invoke reg x read", "9999 z invoke reg x read"} {
		checkFault(t, append(ofEvents(4096), lineEvent(wrong)), failAt(api.ErrMany, 4097))
	}
	checkFault(t, append(ofEvents(4096), api.Event{}), failAt(api.ErrMany, 4097))
	checkFault(t, append(ofEvents(4095), api.Event{}), failAt(api.ErrSyntax, 4096))
	checkFault(t, append(ofEvents(4095), lineEvent("0 a ok")), failAt(api.ErrForm, 4096))
	checkFault(t, append(make([]api.Event, 4096), ofEvents(1)...), failAt(api.ErrSyntax, 1))
}

// P12.1: the first fault of several.

func TestTheFirstFault(t *testing.T) {
	wrong := api.Event{Time: 9}
	form := lineEvent("9 c ok")
	begin := history("0 a invoke reg x read/1 a ok 5")
	join := func(events ...api.Event) []api.Event { return append(slices.Clone(begin), events...) }
	checkFault(t, join(wrong, form), failAt(api.ErrSyntax, 3))
	checkFault(t, join(form, wrong), failAt(api.ErrForm, 3))
	checkFault(t, join(begin[0], form, wrong), failAt(api.ErrForm, 3))
	checkFault(t, []api.Event{wrong, form, begin[0]}, failAt(api.ErrSyntax, 1))
	checkFault(t, []api.Event{form, wrong, begin[0]}, failAt(api.ErrForm, 1))
	checkFault(t, []api.Event{begin[0], form, begin[1], wrong}, failAt(api.ErrForm, 2))
	checkFault(t, []api.Event{begin[0], begin[0], form, wrong}, failAt(api.ErrForm, 2))
	for _, at := range []int{0, 1, 100, 4094, 4095} {
		many := ofEvents(5000)
		many[at], many[at+1] = wrong, form
		checkFault(t, many, failAt(api.ErrSyntax, at+1))
		many[at], many[at+1] = lineEvent(fmt.Sprint(at/3, " c ok")), wrong
		checkFault(t, many, failAt(api.ErrForm, at+1))
	}
	// Several of one event: all are ErrForm.
	checkForm(t, "5 a invoke reg x read/4 a invoke reg x read", 2)
	checkForm(t, "5 a invoke reg x read/4 b ok 5", 2)
	checkForm(t, "5 a invoke reg x read/4 a ok T", 2)
	checkForm(t, "5 a invoke reg x read/4 b ok/3 a ok T", 2)
	// A client that was at fault doesn't count behind it.
	checkForm(t, "5 a invoke reg x read/5 a invoke reg x read/5 a ok T", 2)
}

// P12.2: Opers.

func TestOpers(t *testing.T) {
	for _, c := range []struct{ lines, want string }{
		{"", ""},
		{"3 a invoke reg x write 5", "a reg x write 5 0 to -1"},
		{"3 a invoke reg x write 5/4 a ok", "a reg x write 5 0 to 1"},
		{"3 a invoke reg x write 5/4 a fail", ""},
		{"3 a invoke reg x write 5/4 a info", "a reg x write 5 0 to -1"},
		{"3 a invoke reg x write 5/4 a fail/5 b invoke reg x read/6 b fail", ""},
		{"3 a invoke reg x write 5/4 a info/5 b invoke reg x read/6 b info", "a reg x write 5 0 to -1/b reg x read 2 to -1"},
		{"3 a invoke reg x write 5/4 b invoke reg x read/5 b fail/6 c invoke reg x read/7 c ok ~/8 a info/9 c invoke reg x read",
			"a reg x write 5 0 to -1/c reg x read 3 to 4 ~/c reg x read 6 to -1"},
		// In the order of their calls, however they came back.
		{"0 a invoke cas 1 swap 1 2/0 b invoke cas 1 swap 2 3/0 c invoke cas 1 swap 3 4/0 c ok T/0 b ok F/0 a ok T",
			"a cas 1 swap 1 2 0 to 5 T/b cas 1 swap 2 3 1 to 4 F/c cas 1 swap 3 4 2 to 3 T"},
		{"0 c invoke cas 1 swap 1 2/0 b invoke cas 1 swap 2 3/0 a invoke cas 1 swap 3 4/0 b ok T/0 a fail/0 c ok T",
			"c cas 1 swap 1 2 0 to 5 T/b cas 1 swap 2 3 1 to 3 T"},
		{"0 c invoke cas 1 swap 1 2/0 b invoke cas 1 swap 2 3/0 a invoke cas 1 swap 3 4/0 a info/0 b ok F/0 b invoke cas 1 read",
			"c cas 1 swap 1 2 0 to -1/b cas 1 swap 2 3 1 to 4 F/a cas 1 swap 3 4 2 to -1/b cas 1 read 5 to -1"},
		// The Out of each is its own.
		{"0 a invoke reg x read/0 b invoke reg x read/0 c invoke reg x read/0 b ok 2/0 c ok c3/0 a ok ~",
			"a reg x read 0 to 5 ~/b reg x read 1 to 3 2/c reg x read 2 to 4 c3"},
		{"0 a invoke map m put k 1/1 a ok ;n/2 a invoke map m get k ;why/3 a ok 1/4 a invoke map m del k/5 a ok",
			"a map m put k 1 0 to 1/a map m get k 2 to 3 1/a map m del k 4 to 5"},
	} {
		checkTold(t, c.lines, c.want)
	}
}

// Each way in which each thing that is done can end.
func TestOpersOfEachDoing(t *testing.T) {
	outs := map[string][]string{"": {""}, "v?": {" 5", " al", " ~"}, "n": {" 0", " -5"}, "f": {" T", " F"}, "vv*": {"", " 1 2", " a b 3 4"}}
	for _, d := range doings {
		invoke := "0 a invoke " + d.invoke
		checkTold(t, invoke, "a "+d.invoke+" 0 to -1")
		checkTold(t, invoke+"/0 a info", "a "+d.invoke+" 0 to -1")
		checkTold(t, invoke+"/0 a fail", "")
		for _, out := range outs[d.rule] {
			checkTold(t, invoke+"/0 a ok"+out, "a "+d.invoke+" 0 to 1"+out)
			checkTold(t, invoke+"/0 b invoke lock l take/0 b fail/0 a ok"+out, "a "+d.invoke+" 0 to 3"+out)
		}
	}
}

// P12.3, and that an operation that failed is none and leaves its client free.
func TestAClientTakesTurns(t *testing.T) {
	checkTold(t, "0 a invoke reg x write 1/0 a fail/0 a invoke reg x write 2/0 a ok/0 a invoke reg x write 3/0 a fail/0 a invoke reg x write 4/0 a info",
		"a reg x write 2 2 to 3/a reg x write 4 6 to -1")
	r := rand.New(rand.NewSource(21))
	for range 300 {
		h := wellFormed(r, r.Intn(60))
		l, f := Opers(h)
		if f != (api.Fail{}) {
			t.Fatalf("Opers(%s): %v", short(h), f)
		}
		checkTurns(t, h, l)
		failed, invoked := 0, 0
		for _, e := range h {
			if e.Type == api.Failed {
				failed++
			}
			if e.Type == api.Invoke {
				invoked++
			}
		}
		if len(l) != invoked-failed {
			t.Fatalf("Opers(%s) has %d operations: %d were invoked, %d failed", short(h), len(l), invoked, failed)
		}
	}
}

// P12.1 and P12.2, by histories of all kinds.

// Every history of few events, out of some; of one at fault what stands behind it
// is tried by one more event.
func TestEveryShortHistory(t *testing.T) {
	letters := history("0 a invoke reg x read/0 a invoke reg x write 5/0 a ok/0 a ok 5/0 a ok T/0 a fail/0 a info/0 b invoke lock l take/0 b ok T/0 b ok 5/0 b fail/0 b info/0 c invoke reg x read/0 c fail")
	letters = append(letters, api.Event{}, lineEvent("1 a ok 5"))
	tried := 0
	var grow func(h []api.Event, more int)
	grow = func(h []api.Event, more int) {
		checkHistory(t, h)
		tried++
		if more == 0 {
			return
		}
		if faultOf(h).Code != api.OK {
			more = 1
		}
		for _, e := range letters {
			grow(append(h, e), more-1)
		}
	}
	grow(make([]api.Event, 0, 9), 6)
	if tried < 100000 {
		t.Errorf("%d were tried", tried)
	}
}

// one answers one of the list.
func one[T any](r *rand.Rand, list []T) T { return list[r.Intn(len(list))] }

// outOf answers what may come out by the rule.
func outOf(r *rand.Rand, rule string) string {
	named := []string{" 5", " al", " 0", " -7", " z9"}
	switch rule {
	case "v?":
		return one(r, append(named, " ~"))
	case "n":
		return one(r, []string{" 0", " 5", " -7"})
	case "f":
		return one(r, []string{" T", " F"})
	case "vv*":
		out := ""
		for range 2 * r.Intn(4) {
			out += one(r, named)
		}
		return out
	}
	return ""
}

// wellFormed answers a history of so many events that is well-formed.
func wellFormed(r *rand.Rand, count int) []api.Event {
	clients := []string{"a", "b", "al", "al_1", "7", "-7"}
	rule := map[string]string{} // of who is busy
	time := int64(r.Intn(3))
	var h []api.Event
	for len(h) < count {
		i := r.Intn(len(clients))
		client := clients[i]
		line := fmt.Sprint(time, " ", client)
		out, busy := rule[client]
		switch n := r.Intn(10); {
		case !busy:
			d := one(r, doings)
			rule[client] = d.rule
			line += " invoke " + d.invoke
		case n < 6:
			delete(rule, client)
			line += " ok" + outOf(r, out)
		case n < 8:
			delete(rule, client)
			line += " fail"
		case n < 9:
			// One that was never there comes for one that is lost.
			clients[i] = fmt.Sprint("c", len(h))
			delete(rule, client)
			line += " info"
		default:
			continue
		}
		if r.Intn(4) == 0 {
			line += " ;note"
		}
		h = append(h, lineEvent(line))
		time += int64(r.Intn(3))
	}
	return h
}

func TestHistoriesThatAreWellFormed(t *testing.T) {
	r := rand.New(rand.NewSource(22))
	for i := range 2000 {
		count := r.Intn(40)
		if i%200 == 0 {
			count = one(r, []int{500, 2000, 4095, 4096})
		}
		h := wellFormed(r, count)
		checkOpers(t, h, opersOf(h))
		if f := faultOf(h); f.Code != api.OK {
			t.Fatalf("the test takes %s wrongly: %v", short(h), f)
		}
	}
	for range 3 {
		checkFault(t, wellFormed(r, 4097+r.Intn(1000)), failAt(api.ErrMany, 4097))
	}
}

// spoilEvent changes one thing of an event, so that it may be wrong.
func spoilEvent(r *rand.Rand, e api.Event) api.Event {
	switch r.Intn(8) {
	case 0:
		e.Time += int64(r.Intn(9)) - 4
	case 1:
		e.Client = one(r, []api.Value{{Kind: api.Word, S: "a"}, {Kind: api.Word, S: "al"}, {Kind: api.Word, S: "q"}, {Kind: api.Int, N: 7}, {}})
	case 2:
		e.Type = r.Intn(6)
	case 3:
		e.Out = append(slices.Clone(e.Out), api.Value{Kind: r.Intn(4)})
	case 4:
		e.Out = slices.Clone(e.Out)
		for i := range e.Out {
			e.Out[i] = one(r, []api.Value{{}, {Kind: api.Bool, N: 1}, {Kind: api.Int, N: 3}, {Kind: api.Word, S: "b"}})
		}
	case 5:
		e.Out = nil
	case 6:
		time, client := e.Time, e.Client
		e = lineEvent(one(r, []string{"0 a ok", "0 a ok 5", "0 a ok T", "0 a fail", "0 a info", "0 a invoke reg x read"}))
		e.Time, e.Client = time, client
	case 7:
		e.Model, e.Op = r.Intn(12), r.Intn(14)
	}
	return e
}

// Histories that are well-formed but for one event or two.
func TestHistoriesThatAreNearlyWellFormed(t *testing.T) {
	r := rand.New(rand.NewSource(23))
	met := map[api.Errno]int{}
	for range 20000 {
		h := wellFormed(r, 1+r.Intn(20))
		for range 1 + r.Intn(2) {
			at := r.Intn(len(h))
			switch r.Intn(5) {
			case 0:
				h = slices.Delete(h, at, at+1)
			case 1:
				h = slices.Insert(h, at, h[at])
			case 2:
				to := r.Intn(len(h))
				h[at], h[to] = h[to], h[at]
				h[at].Time, h[to].Time = h[to].Time, h[at].Time
			default:
				h[at] = spoilEvent(r, h[at])
			}
			if len(h) == 0 {
				break
			}
		}
		checkHistory(t, h)
		met[faultOf(h).Code]++
	}
	for _, code := range []api.Errno{api.OK, api.ErrSyntax, api.ErrForm} {
		if met[code] < 1000 {
			t.Errorf("%v was met %d times", code, met[code])
		}
	}
}

func FuzzPair(f *testing.F) {
	f.Add("")
	f.Add(strings.ReplaceAll(base, "/", "\n") + "\n")
	for _, d := range doings {
		f.Add("0 a invoke " + d.invoke + "\n1 b invoke " + d.invoke + "\n2 a ok 5\n3 b fail\n")
		f.Add("0 a invoke " + d.invoke + "\n1 a ok\n2 a invoke " + d.invoke + "\n3 a info\n")
	}
	f.Fuzz(func(t *testing.T, text string) {
		if h, fail := hist.Parse(text); fail.Code == api.OK {
			checkHistory(t, h)
		}
	})
}

// The two examples of the chapter.
func TestExamples(t *testing.T) {
	word := func(s string) api.Value { return api.Value{Kind: api.Word, S: s} }
	done := api.Event{Time: 3, Client: word("a"), Type: api.Done}
	if f := Check([]api.Event{done}); f != (api.Fail{Code: api.ErrForm, Line: 1}) {
		t.Errorf("a Done of a client that never invoked: %v", f)
	}
	invoke := api.Event{Time: 3, Client: word("a"), Type: api.Invoke, Model: api.Register, Key: word("x"), Op: api.Read}
	l, f := Opers([]api.Event{invoke})
	if f != (api.Fail{}) || len(l) != 1 {
		t.Fatalf("an Invoke alone: %v, %v", l, f)
	}
	want := api.Oper{Client: word("a"), Model: api.Register, Key: word("x"), Op: api.Read, Call: 0, Ret: -1}
	if !sameOper(l[0], want) {
		t.Errorf("an Invoke alone: %v", l[0])
	}
}

// R3: no list and an empty one are one.
func TestNoListAndAnEmptyOne(t *testing.T) {
	r := rand.New(rand.NewSource(24))
	for range 200 {
		h := wellFormed(r, r.Intn(30))
		want := opersOf(h)
		odd := slices.Clone(h)
		for i := range odd {
			if len(odd[i].Args) == 0 {
				odd[i].Args = make([]api.Value, 0, r.Intn(3))
			}
			if len(odd[i].Out) == 0 {
				odd[i].Out = make([]api.Value, 0, r.Intn(3))
			}
		}
		checkOpers(t, odd, want)
	}
}

var spare = []api.Value{{Kind: api.Word, S: "s"}, {Kind: api.Int, N: 9}, {Kind: 7}}

// roomy answers h with spare room behind it and behind each of its lists.
func roomy(h []api.Event) []api.Event {
	all := make([]api.Event, 0, len(h)+3)
	for _, e := range h {
		args, out := slices.Concat(e.Args, spare), slices.Concat(e.Out, spare)
		e.Args, e.Out = args[:len(e.Args)], out[:len(e.Out)]
		all = append(all, e)
	}
	all = append(all, lineEvent("9 z info"), api.Event{Note: "spare"}, lineEvent("9 z ok 1"))
	return all[:len(h)]
}

// checkRoomy holds what roomy(h) answered, with all of its room, against h.
func checkRoomy(t *testing.T, got, h []api.Event) {
	t.Helper()
	fresh := roomy(h)
	for _, list := range [][]api.Event{got, fresh} {
		for i, e := range list {
			list[i].Args = e.Args[:len(e.Args)+len(spare)]
			list[i].Out = e.Out[:len(e.Out)+len(spare)]
		}
	}
	if !sameHistory(got[:len(h)+3], fresh[:len(h)+3]) {
		t.Fatalf("what was handed in is %s, was %s", short(got), short(h))
	}
}

// R4: what is handed in isn't changed, spare room included.
func TestWhatIsHandedInStays(t *testing.T) {
	r := rand.New(rand.NewSource(25))
	histories := [][]api.Event{nil, history(base), history("0 a ok"), {{}}, ofEvents(4096), ofEvents(4097)}
	for range 200 {
		h := wellFormed(r, r.Intn(30))
		histories = append(histories, h, append(slices.Clone(h), lineEvent("0 z ok")), append(slices.Clone(h), api.Event{}))
	}
	for _, h := range histories {
		got := roomy(h)
		Check(got)
		l, _ := Opers(got)
		Opers(got)
		checkRoomy(t, got, h)
		// Nor is it changed by what becomes of the answer.
		got = roomy(h)
		l, _ = Opers(got)
		spoilAll(l)
		checkRoomy(t, got, h)
	}
}

// spoil overwrites all of a list, its spare room included.
func spoil(list []api.Value) {
	for i := range list[:cap(list)] {
		list[:cap(list)][i] = api.Value{Kind: api.Word, S: "spoilt"}
	}
}

// spoilAll overwrites all of an answer, with its operations' lists.
func spoilAll(l []api.Oper) {
	for _, o := range l {
		spoil(o.Args)
		spoil(o.Out)
	}
	for i := range l[:cap(l)] {
		l[:cap(l)][i] = api.Oper{Call: -9, Ret: -9}
	}
}

// R4: each answer is new, spare room included, and so is each list in it.
func TestAnswersAreNew(t *testing.T) {
	r := rand.New(rand.NewSource(26))
	for i := range 100 {
		h := wellFormed(r, i)
		if i%2 == 0 {
			// Events whose lists are one list.
			h = history(strings.Repeat("0 a invoke omap m scan 1 9/0 a ok 5 al/", i) + "0 a invoke lock l take")
			args, out := h[0].Args, slices.Clone(spare[:2])
			for j := range h {
				switch {
				case j%2 == 1:
					h[j].Out = out
				case len(h[j].Args) > 0:
					h[j].Args = args
				}
			}
		}
		var want []api.Oper
		for _, o := range opersOf(h) {
			o.Args, o.Out = slices.Clone(o.Args), slices.Clone(o.Out)
			want = append(want, o)
		}
		first, _ := Opers(h)
		second, _ := Opers(h)
		spoilAll(first)
		if !sameOpers(second, want) {
			t.Fatalf("two answers share memory: %.300s", allTold(second))
		}
		// Nor does what is handed in, as it changes later.
		for _, e := range h {
			spoil(e.Args)
			spoil(e.Out)
		}
		if !sameOpers(second, want) {
			t.Fatalf("an answer shares memory with the history: %.300s", allTold(second))
		}
		for j := range second {
			spoil(second[j].Args)
			second[j].Args = want[j].Args
			if !sameOpers(second, want) {
				t.Fatalf("two lists of one answer share memory: %.300s", allTold(second))
			}
			spoil(second[j].Out)
			second[j].Out = want[j].Out
			if !sameOpers(second, want) {
				t.Fatalf("two lists of one answer share memory: %.300s", allTold(second))
			}
		}
	}
}

// R5: neither calls ahead of it nor their faults are told by a later call.
func TestAnswersHangOnNothingElse(t *testing.T) {
	for _, ahead := range []string{"", "0 a invoke reg x read", "0 a ok", "0 a invoke reg x read/1 a info", "0 b invoke reg x read/1 b fail", "0 a invoke lock l take/0 a ok 5", "9 a invoke reg x read/8 a ok"} {
		Check(history(ahead))
		Opers(history(ahead))
		Check(ofEvents(4097))
		Opers(make([]api.Event, 3))
		checkTold(t, base, "a reg x write 5 0 to 2/b reg x read 1 to 3 5/b fifo q pop 6 to -1/a lock l take 8 to -1")
		checkTold(t, "", "")
		checkForm(t, "0 a ok", 1)
		checkForm(t, "0 b fail", 1)
		checkTold(t, "0 a invoke reg x read", "a reg x read 0 to -1")
	}
}
