package sign

import (
	"math"
	"math/rand"
	"regexp"
	"slices"
	"strings"
	"testing"

	"incognito/api"
)

// What the chapter says, in its own words.

const modelWords = "Register 1 reg, Cas 2 cas, Set 3 set, Map 4 map, Fifo 5 fifo, Stack 6 stack, Lock 7 lock, Counter 8 count, Max 9 max, Ordered 10 omap"

const opWords = "Write 1 write, Read 2 read, Swap 3 swap, Add 4 add, Del 5 del, Has 6 has, Put 7 put, Get 8 get, Push 9 push, Pop 10 pop, Take 11 take, Free 12 free, Scan 13 scan"

const domainWords = "DClient 0, DObject 1, DValue 2, DField 3, DOrder 4, DNumber 5, DFlag 6"

const table = `
| reg | write | DValue | |
| reg | read | | DValue, or nothing (None) |
| cas | write | DValue | |
| cas | read | | DValue, or nothing |
| cas | swap | DValue, DValue | DFlag |
| set | add, del | DValue | |
| set | has | DValue | DFlag |
| map | put | DField, DValue | |
| map | get | DField | DValue, or nothing |
| map | del | DField | |
| fifo, stack | push | DValue | |
| fifo, stack | pop | | DValue, or nothing |
| lock | take, free | | DFlag |
| count | add | DNumber | |
| count | read | | DNumber |
| max | write | DOrder | |
| max | read | | DOrder, or nothing |
| omap | put | DOrder, DValue | |
| omap | del | DOrder | |
| omap | scan | DOrder, DOrder | any number of pairs: DOrder, DValue |
`

// Numbers that are no model's, nothing's that is done, and no domain's.
var farNumbers = []int{math.MinInt, math.MinInt + 1, -1 << 32, -256, -15, -14, -13, -11, -10, -9, -7, -2, -1, 14, 15, 16, 17, 20, 64, 255, 256, 257, 1 << 16, 1 << 32, 1<<32 + 1, math.MaxInt - 1, math.MaxInt}

// told is a row of the table, for one model and one thing that is done.
type told struct {
	in, out   []int
	none      bool // or nothing
	anyNumber bool // of pairs
}

// listed answers what stands between the commas of s.
func listed(s string) []string {
	return strings.FieldsFunc(s, func(r rune) bool { return r == ',' || r == ' ' })
}

// wordsOf answers the words of a list of the chapter, by their numbers.
func wordsOf(s string) []string {
	words := []string{""}
	for i, l := range strings.Split(s, ", ") {
		var number int
		for _, d := range strings.Fields(l)[1] {
			number = 10*number + int(d-'0')
		}
		if number != i+1 {
			panic(l)
		}
		words = append(words, strings.Fields(l)[2])
	}
	return words
}

func domainsOf(s string) []int {
	numbers := map[string]int{}
	for i, l := range strings.Split(domainWords, ", ") {
		numbers[strings.Fields(l)[0]] = i
	}
	var list []int
	for _, w := range listed(s) {
		d, ok := numbers[w]
		if !ok {
			panic(w)
		}
		list = append(list, d)
	}
	return list
}

type doing struct{ model, op int }

// What the chapter says is read once: nothing of it is changed by a test.
var (
	wantModels = wordsOf(modelWords)
	wantOps    = wordsOf(opWords)
	wantRows   = chapter()
)

// chapter answers the table's rows, by model and what is done.
func chapter() map[doing]told {
	rows := map[doing]told{}
	for _, l := range strings.Split(strings.TrimSpace(table), "\n") {
		cells := strings.Split(l, "|")
		out, none := strings.CutSuffix(strings.Replace(cells[4], " (None)", "", 1), ", or nothing ")
		out, pairs := strings.CutPrefix(out, " any number of pairs:")
		t := told{domainsOf(cells[3]), domainsOf(out), none, pairs}
		for _, model := range listed(cells[1]) {
			for _, op := range listed(cells[2]) {
				rows[doing{slices.Index(wantModels, model), slices.Index(wantOps, op)}] = t
			}
		}
	}
	return rows
}

func isInt(n int64) api.Value   { return api.Value{Kind: api.Int, N: n} }
func isWord(s string) api.Value { return api.Value{Kind: api.Word, S: s} }
func isBool(n int64) api.Value  { return api.Value{Kind: api.Bool, N: n} }

var (
	nothing = api.Value{}
	seven   = isInt(7)
	alice   = isWord("alice")
	yes     = isBool(1)
	no      = isBool(0)
)

// rightValues are right values of each kind.
func rightValues() []api.Value {
	return []api.Value{
		nothing, yes, no,
		isInt(0), isInt(1), isInt(2), isInt(-1), seven, isInt(math.MaxInt64), isInt(math.MinInt64),
		alice, isWord("a"), isWord("t"), isWord("z9_"), isWord("read"), isWord(strings.Repeat("a", 40)),
	}
}

// wrongValues are values that aren't right.
func wrongValues() []api.Value {
	return []api.Value{
		{N: 1}, {S: "a"}, {N: 7, S: "alice"},
		{Kind: api.Int, S: "a"}, {Kind: api.Int, N: 7, S: "7"},
		{Kind: api.Word}, {Kind: api.Word, N: 1, S: "a"}, {Kind: api.Word, S: "A"}, {Kind: api.Word, S: "7"}, {Kind: api.Word, S: "~"}, {Kind: api.Word, S: "a b"}, {Kind: api.Word, S: strings.Repeat("a", 41)},
		{Kind: api.Bool, N: 2}, {Kind: api.Bool, N: -1}, {Kind: api.Bool, S: "a"}, {Kind: api.Bool, N: 1, S: "T"}, {Kind: api.Bool, N: 1 << 32},
		{Kind: 4}, {Kind: 5, N: 1}, {Kind: -1}, {Kind: -1, S: "a"}, {Kind: 256}, {Kind: 257, N: 7}, {Kind: 1 << 32}, {Kind: math.MinInt}, {Kind: math.MaxInt, N: 1},
	}
}

var wordForm = regexp.MustCompile(`\A[a-z][a-z0-9_]{0,39}\z`)

// taken is what Takes is to answer.
func taken(domain int, v api.Value) bool {
	number := v == isInt(v.N)
	word := v == isWord(v.S) && wordForm.MatchString(v.S)
	switch {
	case domain >= 0 && domain <= 4:
		return number || word
	case domain == 5:
		return number
	case domain == 6:
		return v == yes || v == no
	}
	return false
}

// fitting is what Fits is to answer.
func fitting(model, op int, args []api.Value) bool {
	t, ok := wantRows[doing{model, op}]
	if !ok || len(args) != len(t.in) {
		return false
	}
	for i, d := range t.in {
		if !taken(d, args[i]) {
			return false
		}
	}
	return true
}

// coming is what Outs is to answer: a pair is taken off as often as one is there.
func coming(model, op int, out []api.Value) ([]int, bool) {
	t, ok := wantRows[doing{model, op}]
	switch {
	case !ok:
		return nil, false
	case t.anyNumber:
		var list []int
		for ; len(out) > 0; out = out[2:] {
			if len(out) == 1 || !taken(t.out[0], out[0]) || !taken(t.out[1], out[1]) {
				return nil, false
			}
			list = append(list, t.out...)
		}
		return list, true
	case len(t.out) == 0:
		return nil, len(out) == 0
	case len(out) == 1 && (taken(t.out[0], out[0]) || t.none && out[0] == nothing):
		return t.out, true
	}
	return nil, false
}

func checkModel(t *testing.T, word string, want int) {
	t.Helper()
	if m, ok := Model(word); m != want || ok != (want != 0) {
		t.Errorf("Model(%.80q) = %d, %v, want %d", word, m, ok, want)
	}
}

func checkOp(t *testing.T, word string, want int) {
	t.Helper()
	if o, ok := Op(word); o != want || ok != (want != 0) {
		t.Errorf("Op(%.80q) = %d, %v, want %d", word, o, ok, want)
	}
}

func checkTakes(t *testing.T, domain int, v api.Value, want bool) {
	t.Helper()
	if Takes(domain, v) != want {
		t.Errorf("Takes(%d, %#v) = %v", domain, v, !want)
	}
	if taken(domain, v) != want {
		t.Errorf("the test takes %d, %#v wrongly", domain, v)
	}
}

func checkArgs(t *testing.T, model, op int, want []int, wantOK bool) {
	t.Helper()
	if l, ok := Args(model, op); ok != wantOK || !slices.Equal(l, want) {
		t.Errorf("Args(%d, %d) = %v, %v, want %v, %v", model, op, l, ok, want, wantOK)
	}
}

func checkFits(t *testing.T, model, op int, args []api.Value, want bool) {
	t.Helper()
	if Fits(model, op, args...) != want {
		t.Errorf("Fits(%d, %d, %#v) = %v", model, op, args, !want)
	}
	if fitting(model, op, args) != want {
		t.Errorf("the test takes %d, %d, %#v wrongly", model, op, args)
	}
}

func checkOuts(t *testing.T, model, op int, out []api.Value, want []int, wantOK bool) {
	t.Helper()
	if l, ok := Outs(model, op, out...); ok != wantOK || !slices.Equal(l, want) {
		t.Errorf("Outs(%d, %d, %#v) = %v, %v, want %v, %v", model, op, out, l, ok, want, wantOK)
	}
	if l, ok := coming(model, op, out); ok != wantOK || !slices.Equal(l, want) {
		t.Errorf("the test takes %d, %d, %#v wrongly: %v, %v", model, op, out, l, ok)
	}
}

// P9.1: Model, ModelName.

func TestModels(t *testing.T) {
	for _, c := range []struct {
		model int
		word  string
	}{
		{api.Register, "reg"}, {api.Cas, "cas"}, {api.Set, "set"}, {api.Map, "map"}, {api.Fifo, "fifo"},
		{api.Stack, "stack"}, {api.Lock, "lock"}, {api.Counter, "count"}, {api.Max, "max"}, {api.Ordered, "omap"},
	} {
		checkModel(t, c.word, c.model)
		if s := ModelName(c.model); s != c.word {
			t.Errorf("ModelName(%d) = %q, want %q", c.model, s, c.word)
		}
		if wantModels[c.model] != c.word {
			t.Errorf("the test takes model %d wrongly", c.model)
		}
	}
}

func TestModelNamesOfNoModel(t *testing.T) {
	for _, model := range append([]int{0, 11, 12, 13}, farNumbers...) {
		if s := ModelName(model); s != "" {
			t.Errorf("ModelName(%d) = %q", model, s)
		}
	}
}

// P9.1: Op, OpName.

func TestOps(t *testing.T) {
	for _, c := range []struct {
		op   int
		word string
	}{
		{api.Write, "write"}, {api.Read, "read"}, {api.Swap, "swap"}, {api.Add, "add"}, {api.Del, "del"}, {api.Has, "has"}, {api.Put, "put"},
		{api.Get, "get"}, {api.Push, "push"}, {api.Pop, "pop"}, {api.Take, "take"}, {api.Free, "free"}, {api.Scan, "scan"},
	} {
		checkOp(t, c.word, c.op)
		if s := OpName(c.op); s != c.word {
			t.Errorf("OpName(%d) = %q, want %q", c.op, s, c.word)
		}
		if wantOps[c.op] != c.word {
			t.Errorf("the test takes what is done %d wrongly", c.op)
		}
	}
}

func TestOpNamesOfNothing(t *testing.T) {
	for _, op := range append([]int{0}, farNumbers...) {
		if s := OpName(op); s != "" {
			t.Errorf("OpName(%d) = %q", op, s)
		}
	}
}

// nearly answers texts that are a word but for a byte or two.
func nearly(word string) []string {
	list := []string{word + word, strings.ToUpper(word), strings.ToUpper(word[:1]) + word[1:], word + strings.Repeat("x", 1000)}
	for c := range 256 {
		b := string([]byte{byte(c)})
		list = append(list, word+b, b+word)
		for i := range len(word) {
			list = append(list, word[:i]+b+word[i+1:], word[:i]+b+word[i:])
		}
	}
	for i := range len(word) {
		list = append(list, word[:i]+word[i+1:], word[:i], word[i:])
	}
	return list
}

// Words with a byte more, less or otherwise: among them those that are come to
// by chance (max from map, get from set).
func TestWordsThatAreNearlyOne(t *testing.T) {
	tried := 0
	for _, word := range append(slices.Clone(wantModels[1:]), wantOps[1:]...) {
		for _, s := range append(nearly(word), word) {
			tried++
			checkModel(t, s, max(0, slices.Index(wantModels, s)))
			checkOp(t, s, max(0, slices.Index(wantOps, s)))
		}
	}
	if tried < 23*256*8 {
		t.Errorf("%d texts were tried", tried)
	}
}

func TestTextsOfNoModelAndNothingDone(t *testing.T) {
	for _, s := range []string{
		"", " ", "\x00", "~", "0", "1", "10", "13", "-1", "T", "F", "invoke", "ok", "fail", "info",
		"register", "counter", "ordered", "queue", "Register", "Cas", "Write", "swaps", "delete", "remove", "client", "DValue",
		"reg ", " reg", "reg\n", "reg\x00", "reg,", "reg write", "reg|write", "write ", "\twrite", "rеg", "ｒｅｇ", "ma\u0440", strings.Repeat("reg", 100000),
	} {
		checkModel(t, s, 0)
		checkOp(t, s, 0)
	}
	for _, word := range wantModels[1:] {
		checkOp(t, word, 0)
	}
	for _, word := range wantOps[1:] {
		checkModel(t, word, 0)
	}
}

// Each number has one word and each word one number.
func TestWordsAndNumbersAreOneByOne(t *testing.T) {
	models, ops := 0, 0
	for n := -300; n <= 300; n++ {
		if s := ModelName(n); s != "" {
			models++
			checkModel(t, s, n)
		}
		if s := OpName(n); s != "" {
			ops++
			checkOp(t, s, n)
		}
	}
	if models != 10 || ops != 13 {
		t.Errorf("there are %d models, and %d things that are done", models, ops)
	}
}

// P9.1: Takes.

func TestTakes(t *testing.T) {
	for _, c := range []struct {
		domain             int
		number, word, flag bool
	}{
		{api.DClient, true, true, false},
		{api.DObject, true, true, false},
		{api.DValue, true, true, false},
		{api.DField, true, true, false},
		{api.DOrder, true, true, false},
		{api.DNumber, true, false, false},
		{api.DFlag, false, false, true},
		{-1, false, false, false},
		{7, false, false, false},
	} {
		checkTakes(t, c.domain, nothing, false)
		for _, n := range []int64{0, 1, -1, 7, math.MaxInt64, math.MinInt64} {
			checkTakes(t, c.domain, isInt(n), c.number)
		}
		for _, s := range []string{"a", "z", "t", "alice_2", "reg", "read", strings.Repeat("a", 40)} {
			checkTakes(t, c.domain, isWord(s), c.word)
		}
		checkTakes(t, c.domain, yes, c.flag)
		checkTakes(t, c.domain, no, c.flag)
		for _, v := range wrongValues() {
			checkTakes(t, c.domain, v, false)
		}
	}
}

func TestDomainsThatArentThere(t *testing.T) {
	for _, domain := range append([]int{7, 8, 9, 10, 11, 12, 13}, farNumbers...) {
		for _, v := range append(rightValues(), wrongValues()...) {
			checkTakes(t, domain, v, false)
		}
	}
}

// P9.2: Args.

func TestArgs(t *testing.T) {
	value, field, order, number := api.DValue, api.DField, api.DOrder, api.DNumber
	for _, c := range []struct {
		model, op int
		in        []int
	}{
		{api.Register, api.Write, []int{value}},
		{api.Register, api.Read, nil},
		{api.Cas, api.Write, []int{value}},
		{api.Cas, api.Read, nil},
		{api.Cas, api.Swap, []int{value, value}},
		{api.Set, api.Add, []int{value}},
		{api.Set, api.Del, []int{value}},
		{api.Set, api.Has, []int{value}},
		{api.Map, api.Put, []int{field, value}},
		{api.Map, api.Get, []int{field}},
		{api.Map, api.Del, []int{field}},
		{api.Fifo, api.Push, []int{value}},
		{api.Fifo, api.Pop, nil},
		{api.Stack, api.Push, []int{value}},
		{api.Stack, api.Pop, nil},
		{api.Lock, api.Take, nil},
		{api.Lock, api.Free, nil},
		{api.Counter, api.Add, []int{number}},
		{api.Counter, api.Read, nil},
		{api.Max, api.Write, []int{order}},
		{api.Max, api.Read, nil},
		{api.Ordered, api.Put, []int{order, value}},
		{api.Ordered, api.Del, []int{order}},
		{api.Ordered, api.Scan, []int{order, order}},
	} {
		checkArgs(t, c.model, c.op, c.in, true)
	}
}

// Each model with each thing that is done, and with numbers around them.
func TestArgsOfEachModelAndOp(t *testing.T) {
	can := 0
	for model := -20; model <= 30; model++ {
		for op := -20; op <= 30; op++ {
			row, ok := wantRows[doing{model, op}]
			checkArgs(t, model, op, row.in, ok)
			if ok {
				can++
			}
		}
	}
	if can != 24 || len(wantRows) != 24 {
		t.Errorf("%d things can be done by models, %d rows are told", can, len(wantRows))
	}
}

func TestModelsAndOpsThatArentThere(t *testing.T) {
	out := [][]api.Value{nil, {nothing}, {seven}, {alice}, {yes}, {seven, alice}}
	check := func(model, op int) {
		checkArgs(t, model, op, nil, false)
		for _, l := range out {
			checkFits(t, model, op, l, false)
			checkOuts(t, model, op, l, nil, false)
		}
	}
	for _, far := range append([]int{0}, farNumbers...) {
		for n := range 15 {
			check(far, n)
			check(n, far)
		}
		for _, other := range farNumbers {
			check(far, other)
		}
	}
	for n := range 15 {
		check(11, n)
	}
}

// P9.2: Fits.

// oneOf answers a value that the domain takes.
func oneOf(domain int) api.Value {
	switch domain {
	case api.DNumber:
		return seven
	case api.DFlag:
		return yes
	}
	return alice
}

func valuesOf(domains []int) []api.Value {
	var list []api.Value
	for _, d := range domains {
		list = append(list, oneOf(d))
	}
	return list
}

// with answers the list with v in a place of it.
func with(list []api.Value, place int, v api.Value) []api.Value {
	other := slices.Clone(list)
	other[place] = v
	return other
}

// without answers the list without what stands in a place of it.
func without(list []api.Value, place int) []api.Value {
	return slices.Delete(slices.Clone(list), place, place+1)
}

func TestFits(t *testing.T) {
	for _, c := range []struct {
		model, op int
		args      []api.Value
		want      bool
	}{
		{api.Register, api.Write, []api.Value{seven}, true},
		{api.Register, api.Write, []api.Value{alice}, true},
		{api.Register, api.Write, []api.Value{yes}, false},
		{api.Register, api.Write, []api.Value{nothing}, false},
		{api.Register, api.Write, nil, false},
		{api.Register, api.Read, nil, true},
		{api.Register, api.Read, []api.Value{nothing}, false},
		{api.Register, api.Swap, []api.Value{seven, seven}, false},
		{api.Cas, api.Swap, []api.Value{seven, alice}, true},
		{api.Cas, api.Swap, []api.Value{seven, nothing}, false},
		{api.Cas, api.Swap, []api.Value{nothing, seven}, false},
		{api.Cas, api.Swap, []api.Value{seven}, false},
		{api.Cas, api.Swap, []api.Value{seven, alice, yes}, false},
		{api.Set, api.Read, nil, false},
		{api.Map, api.Put, []api.Value{alice, seven}, true},
		{api.Map, api.Put, []api.Value{seven, alice}, true},
		{api.Map, api.Put, []api.Value{alice}, false},
		{api.Lock, api.Take, nil, true},
		{api.Lock, api.Free, []api.Value{yes}, false},
		{api.Lock, api.Add, nil, false},
		{api.Counter, api.Add, []api.Value{isInt(-7)}, true},
		{api.Counter, api.Add, []api.Value{alice}, false},
		{api.Counter, api.Add, []api.Value{nothing}, false},
		{api.Counter, api.Read, nil, true},
		{api.Counter, api.Write, []api.Value{seven}, false},
		{api.Max, api.Write, []api.Value{alice}, true},
		{api.Max, api.Write, []api.Value{no}, false},
		{api.Ordered, api.Scan, []api.Value{seven, alice}, true},
		{api.Ordered, api.Scan, nil, false},
		{api.Ordered, api.Scan, []api.Value{seven, alice, seven, alice}, false},
		{api.Ordered, api.Get, []api.Value{seven}, false},
	} {
		checkFits(t, c.model, c.op, c.args, c.want)
	}
	if !Fits(api.Lock, api.Free) || Fits(api.Map, api.Get) || Fits(0, 0) {
		t.Error("Fits of no values at all")
	}
}

// Each row with just its values, with one more and one less, and in each place
// each value.
func TestFitsOfEachRow(t *testing.T) {
	for d, row := range wantRows {
		args := valuesOf(row.in)
		checkFits(t, d.model, d.op, args, true)
		for place := range args {
			checkFits(t, d.model, d.op, without(args, place), false)
			for _, v := range append(rightValues(), wrongValues()...) {
				checkFits(t, d.model, d.op, with(args, place, v), taken(row.in[place], v))
			}
		}
		for _, v := range append(rightValues(), wrongValues()...) {
			checkFits(t, d.model, d.op, append(slices.Clone(args), v), false)
			checkFits(t, d.model, d.op, append([]api.Value{v}, args...), false)
		}
		checkFits(t, d.model, d.op, append(slices.Clone(args), seven, alice), false)
		checkFits(t, d.model, d.op, slices.Repeat([]api.Value{seven}, 1000), false)
	}
}

// shortLists answers every list of at most most of the values.
func shortLists(values []api.Value, most int) [][]api.Value {
	lists := [][]api.Value{nil}
	for from := 0; most > 0; most-- {
		to := len(lists)
		for ; from < to; from++ {
			for _, v := range values {
				lists = append(lists, append(slices.Clone(lists[from]), v))
			}
		}
	}
	return lists
}

// Each model with each thing that is done, with every short list of values.
func TestEveryShortList(t *testing.T) {
	values := []api.Value{nothing, seven, alice, yes, no, {Kind: api.Word}, {N: 1}}
	lists := shortLists(values, 3)
	if len(lists) != 1+7+49+343 {
		t.Fatalf("%d lists", len(lists))
	}
	for model := range 12 {
		for op := range 15 {
			for _, l := range lists {
				checkFits(t, model, op, l, fitting(model, op, l))
				want, ok := coming(model, op, l)
				checkOuts(t, model, op, l, want, ok)
			}
		}
	}
	for _, l := range shortLists(values, 5) {
		want, ok := coming(api.Ordered, api.Scan, l)
		checkOuts(t, api.Ordered, api.Scan, l, want, ok)
	}
}

// P9.2: Outs.

func TestOuts(t *testing.T) {
	value, order, number, flag := []int{api.DValue}, []int{api.DOrder}, []int{api.DNumber}, []int{api.DFlag}
	for _, c := range []struct {
		model, op           int
		all                 []int // of nothing at all
		allOK               bool
		none, num, word, is []int // of None, a number, a word, yes or no; nil: it may not come out
	}{
		{api.Register, api.Write, nil, true, nil, nil, nil, nil},
		{api.Register, api.Read, nil, false, value, value, value, nil},
		{api.Cas, api.Write, nil, true, nil, nil, nil, nil},
		{api.Cas, api.Read, nil, false, value, value, value, nil},
		{api.Cas, api.Swap, nil, false, nil, nil, nil, flag},
		{api.Set, api.Add, nil, true, nil, nil, nil, nil},
		{api.Set, api.Del, nil, true, nil, nil, nil, nil},
		{api.Set, api.Has, nil, false, nil, nil, nil, flag},
		{api.Map, api.Put, nil, true, nil, nil, nil, nil},
		{api.Map, api.Get, nil, false, value, value, value, nil},
		{api.Map, api.Del, nil, true, nil, nil, nil, nil},
		{api.Fifo, api.Push, nil, true, nil, nil, nil, nil},
		{api.Fifo, api.Pop, nil, false, value, value, value, nil},
		{api.Stack, api.Push, nil, true, nil, nil, nil, nil},
		{api.Stack, api.Pop, nil, false, value, value, value, nil},
		{api.Lock, api.Take, nil, false, nil, nil, nil, flag},
		{api.Lock, api.Free, nil, false, nil, nil, nil, flag},
		{api.Counter, api.Add, nil, true, nil, nil, nil, nil},
		{api.Counter, api.Read, nil, false, nil, number, nil, nil},
		{api.Max, api.Write, nil, true, nil, nil, nil, nil},
		{api.Max, api.Read, nil, false, order, order, order, nil},
		{api.Ordered, api.Put, nil, true, nil, nil, nil, nil},
		{api.Ordered, api.Del, nil, true, nil, nil, nil, nil},
		{api.Ordered, api.Scan, nil, true, nil, nil, nil, nil},
	} {
		checkOuts(t, c.model, c.op, nil, c.all, c.allOK)
		checkOuts(t, c.model, c.op, []api.Value{nothing}, c.none, c.none != nil)
		checkOuts(t, c.model, c.op, []api.Value{isInt(-7)}, c.num, c.num != nil)
		checkOuts(t, c.model, c.op, []api.Value{alice}, c.word, c.word != nil)
		checkOuts(t, c.model, c.op, []api.Value{yes}, c.is, c.is != nil)
		checkOuts(t, c.model, c.op, []api.Value{no}, c.is, c.is != nil)
	}
}

// Each row with what isn't right, and with a value too many.
func TestOutsOfEachRow(t *testing.T) {
	for d, row := range wantRows {
		for _, v := range wrongValues() {
			checkOuts(t, d.model, d.op, []api.Value{v}, nil, false)
		}
		if row.anyNumber {
			continue
		}
		out := valuesOf(row.out)
		checkOuts(t, d.model, d.op, out, row.out, true)
		for _, v := range append(rightValues(), wrongValues()...) {
			checkOuts(t, d.model, d.op, append(slices.Clone(out), v), nil, false)
			checkOuts(t, d.model, d.op, append([]api.Value{v}, out...), nil, false)
			checkOuts(t, d.model, d.op, []api.Value{v, v}, nil, false)
			checkOuts(t, d.model, d.op, []api.Value{v, v, v}, nil, false)
		}
		checkOuts(t, d.model, d.op, slices.Repeat(append(out, nothing), 500), nil, false)
	}
}

func TestOutsOfAScan(t *testing.T) {
	scan := func(want []int, ok bool, out ...api.Value) {
		t.Helper()
		checkOuts(t, api.Ordered, api.Scan, out, want, ok)
	}
	scan(nil, true)
	scan([]int{4, 2}, true, seven, alice)
	scan([]int{4, 2}, true, seven, seven)
	scan([]int{4, 2, 4, 2}, true, seven, alice, isInt(8), isInt(8))
	scan([]int{4, 2, 4, 2, 4, 2}, true, alice, alice, seven, alice, seven, seven)
	// A pair the wrong way round is still one: each of both domains takes a
	// number and a word.
	scan([]int{4, 2}, true, alice, seven)
	scan([]int{4, 2, 4, 2}, true, seven, alice, alice, seven)
	// Half a pair.
	scan(nil, false, seven)
	scan(nil, false, alice)
	scan(nil, false, seven, alice, seven)
	scan(nil, false, seven, alice, seven, alice, alice)
	// Nothing doesn't stand for a value, nor yes or no.
	for _, v := range append([]api.Value{nothing, yes, no}, wrongValues()...) {
		scan(nil, false, v)
		scan(nil, false, v, v)
		scan(nil, false, v, alice)
		scan(nil, false, seven, v)
		scan(nil, false, v, alice, seven, alice)
		scan(nil, false, seven, v, seven, alice)
		scan(nil, false, seven, alice, v, alice)
		scan(nil, false, seven, alice, seven, v)
	}
}

func TestOutsOfLongScans(t *testing.T) {
	for pairs := range 200 {
		out := slices.Repeat([]api.Value{seven, alice}, pairs)
		checkOuts(t, api.Ordered, api.Scan, out, slices.Repeat([]int{4, 2}, pairs), true)
		checkOuts(t, api.Ordered, api.Scan, append(slices.Clone(out), seven), nil, false)
		for place := range out {
			checkOuts(t, api.Ordered, api.Scan, with(out, place, nothing), nil, false)
		}
	}
	out := slices.Repeat([]api.Value{alice, seven}, 100000)
	checkOuts(t, api.Ordered, api.Scan, out, slices.Repeat([]int{4, 2}, 100000), true)
	checkOuts(t, api.Ordered, api.Scan, with(out, len(out)-1, yes), nil, false)
	checkOuts(t, api.Ordered, api.Scan, out[1:], nil, false)
}

// P9.3: what a domain takes hangs on its name alone: not on the model, nor on
// what is done, nor on the place, nor on whether it is handed in or comes out.

func TestADomainTakesTheSameEverywhere(t *testing.T) {
	values := append(rightValues(), wrongValues()...)
	met := map[int]int{}
	for model := range 11 {
		for op := range 14 {
			in, ok := Args(model, op)
			if !ok {
				continue
			}
			args := valuesOf(in)
			for place, domain := range in {
				met[domain]++
				for _, v := range values {
					if Fits(model, op, with(args, place, v)...) != Takes(domain, v) {
						t.Errorf("what is handed in to %d, %d at %d isn't as domain %d takes %#v", model, op, place, domain, v)
					}
				}
			}
			out := valuesOf(wantRows[doing{model, op}].out)
			domains, _ := Outs(model, op, out...)
			for place, domain := range domains {
				met[domain]++
				for _, v := range values {
					if _, ok := Outs(model, op, with(out, place, v)...); v != nothing && ok != Takes(domain, v) {
						t.Errorf("what comes out of %d, %d at %d isn't as domain %d takes %#v", model, op, place, domain, v)
					}
				}
			}
		}
	}
	for domain := api.DValue; domain <= api.DFlag; domain++ {
		if met[domain] == 0 {
			t.Errorf("domain %d wasn't met", domain)
		}
	}
}

// Of a right value its Kind alone tells whether it is taken.
func TestTakesHangsOnKindsAlone(t *testing.T) {
	for domain := -1; domain <= 7; domain++ {
		kinds := map[int]bool{}
		for _, v := range rightValues() {
			got := Takes(domain, v)
			if want, ok := kinds[v.Kind]; ok && want != got {
				t.Errorf("domain %d takes some of kind %d", domain, v.Kind)
			}
			kinds[v.Kind] = got
		}
		if len(kinds) != 4 {
			t.Errorf("%d kinds were tried", len(kinds))
		}
	}
}

// The two examples of the chapter.
func TestExamples(t *testing.T) {
	if l, ok := Args(api.Cas, api.Swap); !ok || !slices.Equal(l, []int{2, 2}) {
		t.Errorf("Args(Cas, Swap) = %v, %v", l, ok)
	}
	if l, ok := Outs(api.Register, api.Read); ok || len(l) != 0 {
		t.Errorf("Outs(Register, Read) = %v, %v", l, ok)
	}
	if l, ok := Outs(api.Register, api.Read, api.Value{}); !ok || !slices.Equal(l, []int{2}) {
		t.Errorf("Outs(Register, Read, None) = %v, %v", l, ok)
	}
}

func anyValue(r *rand.Rand) api.Value {
	kinds := []int{-1, 0, 1, 1, 1, 2, 2, 2, 3, 4}
	v := api.Value{Kind: kinds[r.Intn(len(kinds))]}
	if v.Kind == api.Int || r.Intn(6) == 0 || v.Kind == api.Bool {
		v.N = r.Int63n(3)
	}
	if v.Kind == api.Word || r.Intn(9) == 0 {
		v.S = []string{"a", "b9", "", "A", "z_"}[r.Intn(5)]
	}
	return v
}

func TestAnyLists(t *testing.T) {
	r := rand.New(rand.NewSource(9))
	for range 100000 {
		model, op := r.Intn(12), r.Intn(15)
		list := make([]api.Value, r.Intn(7))
		for i := range list {
			list[i] = anyValue(r)
		}
		checkFits(t, model, op, list, fitting(model, op, list))
		want, ok := coming(model, op, list)
		checkOuts(t, model, op, list, want, ok)
	}
}

func FuzzSign(f *testing.F) {
	f.Add(1, 2, 0, int64(0), "")
	f.Add(2, 3, 1, int64(7), "")
	f.Add(10, 13, 2, int64(0), "alice")
	f.Add(7, 11, 3, int64(1), "take")
	f.Add(-1, 14, 4, int64(-1), "reg")
	f.Fuzz(func(t *testing.T, model, op, kind int, n int64, s string) {
		v := api.Value{Kind: kind, N: n, S: s}
		checkModel(t, s, max(0, slices.Index(wantModels, s)))
		checkOp(t, s, max(0, slices.Index(wantOps, s)))
		checkTakes(t, model, v, taken(model, v))
		checkTakes(t, op, v, taken(op, v))
		row, ok := wantRows[doing{model, op}]
		checkArgs(t, model, op, row.in, ok)
		for _, l := range [][]api.Value{nil, {v}, {v, v}, {v, alice}, {seven, v}, {v, v, v}, {seven, v, v, alice}} {
			checkFits(t, model, op, l, fitting(model, op, l))
			want, ok := coming(model, op, l)
			checkOuts(t, model, op, l, want, ok)
		}
		if ModelName(model) != "" {
			checkModel(t, ModelName(model), model)
		}
		if OpName(op) != "" {
			checkOp(t, OpName(op), op)
		}
	})
}

// R3: no list and an empty one are one, handed in.
func TestNoListAndAnEmptyOne(t *testing.T) {
	for model := range 12 {
		for op := range 15 {
			if Fits(model, op) != Fits(model, op, []api.Value{}...) || Fits(model, op) != Fits(model, op, make([]api.Value, 0, 9)...) {
				t.Errorf("Fits(%d, %d) of no list and of an empty one are unlike", model, op)
			}
			a, aOK := Outs(model, op)
			b, bOK := Outs(model, op, make([]api.Value, 0, 9)...)
			if aOK != bOK || !slices.Equal(a, b) {
				t.Errorf("Outs(%d, %d) of no list and of an empty one are unlike", model, op)
			}
		}
	}
}

// R4: what is handed in isn't changed, spare room included.
func TestWhatIsHandedInStays(t *testing.T) {
	for model := range 12 {
		for op := range 15 {
			for long := range 6 {
				for _, v := range []api.Value{seven, alice, yes, nothing} {
					room := slices.Repeat([]api.Value{v}, 9)
					Fits(model, op, room[:long]...)
					Outs(model, op, room[:long]...)
					if !slices.Equal(room, slices.Repeat([]api.Value{v}, 9)) {
						t.Fatalf("%d, %d: what was handed in is %#v", model, op, room)
					}
				}
			}
		}
	}
}

// spoil overwrites all of a list, its spare room included.
func spoil(list []int) {
	for i := range list[:cap(list)] {
		list[:cap(list)][i] = 99
	}
}

// R4: each answer is new, spare room included.
func TestListsAreNew(t *testing.T) {
	for d, row := range wantRows {
		first, _ := Args(d.model, d.op)
		second, _ := Args(d.model, d.op)
		spoil(first)
		if !slices.Equal(second, row.in) {
			t.Errorf("two answers of Args share memory: %v", second)
		}
		spoil(second)
		checkArgs(t, d.model, d.op, row.in, true)
		checkFits(t, d.model, d.op, valuesOf(row.in), true)

		out := valuesOf(row.out)
		first, _ = Outs(d.model, d.op, out...)
		second, _ = Outs(d.model, d.op, out...)
		spoil(first)
		if !slices.Equal(second, row.out) {
			t.Errorf("two answers of Outs share memory: %v", second)
		}
		spoil(second)
		checkOuts(t, d.model, d.op, out, row.out, true)
	}
}

// R5: neither calls ahead of it nor what they answered are told by a later call.
func TestAnswersHangOnNothingElse(t *testing.T) {
	for range 3 {
		for n := -2; n < 16; n++ {
			Model(OpName(n))
			Op(ModelName(n))
			Takes(n, yes)
			Args(n, n)
			Fits(n, n, nothing)
			Outs(n, n, nothing, yes)
			checkModel(t, "omap", api.Ordered)
			checkOp(t, "scan", api.Scan)
			checkTakes(t, api.DFlag, yes, true)
			checkTakes(t, api.DOrder, yes, false)
			checkArgs(t, api.Map, api.Put, []int{3, 2}, true)
			checkFits(t, api.Map, api.Put, []api.Value{seven, alice}, true)
			checkOuts(t, api.Max, api.Read, []api.Value{nothing}, []int{4}, true)
			checkOuts(t, api.Counter, api.Read, []api.Value{nothing}, nil, false)
		}
	}
}
