package hold

import (
	"fmt"
	"math"
	"math/big"
	"math/rand"
	"regexp"
	"slices"
	"strings"
	"testing"

	"incognito/api"
	"incognito/sign"
)

// What the chapter says, looked up in all steps that were done, without a state.

var models = []int{api.Lock, api.Counter}

var allOps = []int{
	api.Write, api.Read, api.Swap, api.Add, api.Del, api.Has, api.Put,
	api.Get, api.Push, api.Pop, api.Take, api.Free, api.Scan,
}

// Numbers that are no model's, and nothing's that is done.
var farNumbers = []int{math.MinInt, math.MinInt + 1, -1 << 32, -256, -15, -12, -11, -8, -7, -4, -2, -1, 0, 14, 15, 16, 64, 255, 256, 257, 258, 260, 263, 264, 267, 268, 1 << 16, 1 << 32, 1<<32 + 2, 1<<32 + 4, 1<<32 + 7, 1<<32 + 8, 1<<32 + 11, 1<<32 + 12, math.MaxInt - 1, math.MaxInt}

const (
	least    = math.MinInt64
	greatest = math.MaxInt64
)

func isInt(n int64) api.Value   { return api.Value{Kind: api.Int, N: n} }
func isWord(s string) api.Value { return api.Value{Kind: api.Word, S: s} }
func isBool(n int64) api.Value  { return api.Value{Kind: api.Bool, N: n} }

func list(values ...api.Value) []api.Value { return values }

var (
	nothing = api.Value{}
	al      = isWord("al")
	bo      = isWord("bo")
	yes     = isBool(1)
	no      = isBool(0)
)

// numbers are values that may be added.
func numbers() []api.Value {
	var l []api.Value
	for _, n := range []int64{least, least + 1, least / 2, math.MinInt32 - 1, math.MinInt32, -256, -10, -2, -1, 0, 1, 2, 9, 255, 256, math.MaxInt32, math.MaxInt32 + 1, math.MaxUint32, greatest / 2, greatest/2 + 1, greatest - 1, greatest} {
		l = append(l, isInt(n))
	}
	return l
}

// words are clients that aren't numbers.
func words() []api.Value {
	return []api.Value{isWord("a"), isWord("a0"), isWord("a_"), isWord("aa"), isWord("b"), isWord("z9_"), isWord(strings.Repeat("z", 40))}
}

// clients are values that may be clients.
func clients() []api.Value {
	return append(numbers(), words()...)
}

// otherValues are those that may be neither: nothing, yes and no, and all that isn't
// right.
func otherValues() []api.Value {
	return []api.Value{
		nothing, yes, no,
		{N: 1}, {S: "a"}, {N: 7, S: "al"},
		{Kind: api.Int, S: "a"}, {Kind: api.Int, N: 7, S: "7"},
		{Kind: api.Word}, {Kind: api.Word, N: 1, S: "a"}, {Kind: api.Word, S: "A"}, {Kind: api.Word, S: "7"}, {Kind: api.Word, S: "~"}, {Kind: api.Word, S: "a b"}, {Kind: api.Word, S: strings.Repeat("a", 41)},
		{Kind: api.Bool, N: 2}, {Kind: api.Bool, N: -1}, {Kind: api.Bool, S: "a"},
		{Kind: 4}, {Kind: -1, N: 1}, {Kind: 257, N: 7}, {Kind: math.MinInt}, {Kind: math.MaxInt},
	}
}

var wordForm = regexp.MustCompile(`\A[a-z][a-z0-9_]{0,39}\z`)

// isNumber tells whether v may be added.
func isNumber(v api.Value) bool {
	return v == isInt(v.N)
}

// isClient tells whether v may be a client.
func isClient(v api.Value) bool {
	return isNumber(v) || v == isWord(v.S) && wordForm.MatchString(v.S)
}

// doing is one step.
type doing struct {
	client api.Value
	op     int
	args   []api.Value
}

func takes(client api.Value) doing { return doing{client, api.Take, nil} }
func frees(client api.Value) doing { return doing{client, api.Free, nil} }
func adds(n int64) doing           { return doing{al, api.Add, list(isInt(n))} }
func reads() doing                 { return doing{al, api.Read, nil} }

// mayBe tells whether that step of a state of the model may be.
func mayBe(model int, d doing) bool {
	if !isClient(d.client) {
		return false
	}
	switch {
	case model == api.Lock && (d.op == api.Take || d.op == api.Free), model == api.Counter && d.op == api.Read:
		return len(d.args) == 0
	case model == api.Counter && d.op == api.Add:
		return len(d.args) == 1 && isNumber(d.args[0])
	}
	return false
}

// holds is who holds the lock behind these steps, each of which may be.
func holds(past []doing) api.Value {
	taken := slices.IndexFunc(past, func(d doing) bool { return d.op == api.Take })
	if taken < 0 {
		return nothing
	}
	// Whoever is first to take it holds it, until that client frees it; behind that
	// it is as at first.
	who := past[taken].client
	freed := slices.IndexFunc(past[taken:], func(d doing) bool { return d.op == api.Free && d.client == who })
	if freed < 0 {
		return who
	}
	return holds(past[taken+freed+1:])
}

// counted is the counter's number behind these steps, each of which may be.
func counted(past []doing) int64 {
	sum := new(big.Int)
	for _, d := range past {
		if d.op == api.Add {
			sum.Add(sum, big.NewInt(d.args[0].N))
		}
	}
	// Of all numbers that are as much, modulo 2^64, the one that 64 bits hold.
	round, half := new(big.Int).Lsh(big.NewInt(1), 64), new(big.Int).Lsh(big.NewInt(1), 63)
	sum.Mod(sum, round)
	if sum.Cmp(half) >= 0 {
		sum.Sub(sum, round)
	}
	return sum.Int64()
}

// comesTo is the state behind these steps, each of which may be.
func comesTo(model int, past []doing) api.State {
	if model == api.Lock {
		return api.State{Model: api.Lock, One: holds(past)}
	}
	return api.State{Model: api.Counter, N: counted(past)}
}

// comesOut is what comes out of a step that may be, behind these.
func comesOut(past []doing, d doing) []api.Value {
	switch {
	case d.op == api.Add:
		return nil
	case d.op == api.Read:
		return list(isInt(counted(past)))
	case d.op == api.Take && holds(past) == nothing, d.op == api.Free && holds(past) == d.client:
		return list(yes)
	}
	return list(no)
}

// isState tells whether s is that state, and has no list.
func isState(s, want api.State) bool {
	return s.Model == want.Model && s.One == want.One && s.N == want.N && len(s.L) == 0 && cap(s.L) == 0
}

// isZero tells whether s is the zero state.
func isZero(s api.State) bool {
	return isState(s, api.State{})
}

func first(t *testing.T, model int) api.State {
	t.Helper()
	s, ok := New(model)
	if !ok || !isState(s, api.State{Model: model}) {
		t.Fatalf("New(%d) = %#v, %v", model, s, ok)
	}
	return s
}

// steps does a step that may be, behind past, and wants the chapter's answer.
func steps(t *testing.T, s api.State, past []doing, d doing) api.State {
	t.Helper()
	next, out, ok := Step(s, d.client, d.op, d.args...)
	want := comesTo(s.Model, append(slices.Clone(past), d))
	wantOut := comesOut(past, d)
	if !ok || !isState(next, want) || !slices.Equal(out, wantOut) {
		t.Fatalf("model %d, behind %v: Step(%v) = %#v, %v, %v, want %#v and %v", s.Model, past, d, next, out, ok, want, wantOut)
	}
	if _, ok := sign.Outs(s.Model, d.op, out...); !ok {
		t.Fatalf("model %d, behind %v: %v came out of %v, which may not", s.Model, past, out, d)
	}
	return next
}

// refused wants the step not to be.
func refused(t *testing.T, s api.State, d doing) {
	t.Helper()
	next, out, ok := Step(s, d.client, d.op, d.args...)
	if ok || len(out) != 0 || cap(out) != 0 || !isZero(next) {
		t.Fatalf("Step(%v, %v) = %#v, %v, %v", s, d, next, out, ok)
	}
}

// tries does the step if it may be, and else wants it refused.
func tries(t *testing.T, s api.State, past []doing, d doing) {
	t.Helper()
	if mayBe(s.Model, d) {
		steps(t, s, past, d)
		return
	}
	refused(t, s, d)
}

// runs does all steps from the first state on, and answers the last one's state.
func runs(t *testing.T, model int, all ...doing) api.State {
	t.Helper()
	s := first(t, model)
	for i, d := range all {
		s = steps(t, s, all[:i], d)
	}
	return s
}

// P16.1: New.

func TestNew(t *testing.T) {
	for _, model := range models {
		first(t, model)
	}
}

func TestNewOfEveryOtherModel(t *testing.T) {
	others := []int{api.Register, api.Cas, api.Set, api.Map, api.Fifo, api.Stack, api.Max, api.Ordered, 11, 12, 13}
	for _, model := range append(others, farNumbers...) {
		if s, ok := New(model); ok || !isZero(s) {
			t.Errorf("New(%d) = %#v, %v", model, s, ok)
		}
	}
	for model := -300; model <= 300; model++ {
		s, ok := New(model)
		if ok != slices.Contains(models, model) || !ok && !isZero(s) {
			t.Errorf("New(%d) = %#v, %v", model, s, ok)
		}
	}
}

// P16.1: which steps may be.

// pasts are some ways to come to a state of the model.
func pasts(model int) map[string][]doing {
	if model == api.Lock {
		seven, zero := isInt(7), isInt(0)
		return map[string][]doing{
			"at first":           nil,
			"freed at first":     {frees(al)},
			"al's":               {takes(al)},
			"al's, asked again":  {takes(al), takes(al), takes(bo), frees(bo)},
			"bo's":               {takes(bo)},
			"7's":                {takes(seven)},
			"0's":                {takes(zero)},
			"nobody's again":     {takes(al), frees(al)},
			"nobody's, of two":   {takes(al), frees(al), takes(bo), frees(bo), frees(bo)},
			"bo's behind al":     {takes(al), takes(bo), frees(al), takes(bo)},
			"al's a second time": {takes(al), frees(al), takes(al)},
		}
	}
	return map[string][]doing{
		"at first":           nil,
		"0":                  {adds(0)},
		"5":                  {adds(5)},
		"5, read":            {adds(5), reads(), reads()},
		"-1":                 {adds(-1)},
		"the greatest":       {adds(greatest)},
		"the least":          {adds(least)},
		"past the greatest":  {adds(greatest), adds(1)},
		"past the least":     {adds(least), adds(-1)},
		"once round":         {adds(greatest), adds(1), adds(greatest), adds(1)},
		"there and back":     {adds(41), adds(-41)},
		"many, of the least": {adds(least), adds(least), adds(least)},
	}
}

// eachPast does what is asked with each model and each past.
func eachPast(t *testing.T, asked func(name string, s api.State, past []doing)) {
	t.Helper()
	for _, model := range models {
		for name, past := range pasts(model) {
			asked(fmt.Sprintf("model %d, %s", model, name), runs(t, model, past...), past)
		}
	}
}

// Each thing that is done, and numbers around, with 0 to 4 values.
func TestStepOfEachThing(t *testing.T) {
	eachPast(t, func(name string, s api.State, past []doing) {
		done := 0
		for _, op := range append(slices.Clone(allOps), farNumbers...) {
			for many := range 5 {
				d := doing{al, op, slices.Repeat(list(isInt(7)), many)}
				tries(t, s, past, d)
				if _, _, ok := Step(s, d.client, d.op, d.args...); ok {
					done++
				}
			}
		}
		if done != 2 {
			t.Errorf("%s: %d things can be done, not 2", name, done)
		}
	})
}

// As many values as it wants, one fewer and one more, told one by one.
func TestHowManyValues(t *testing.T) {
	v := isInt(7)
	eachPast(t, func(name string, s api.State, past []doing) {
		if s.Model == api.Lock {
			for _, op := range []int{api.Take, api.Free} {
				steps(t, s, past, doing{al, op, nil})
				steps(t, s, past, doing{al, op, list()})
				refused(t, s, doing{al, op, list(v)})
				refused(t, s, doing{al, op, list(al)})
				refused(t, s, doing{al, op, list(nothing)})
				refused(t, s, doing{al, op, list(yes)})
				refused(t, s, doing{al, op, list(al, al)})
			}
			refused(t, s, doing{al, api.Add, list(v)})
			refused(t, s, doing{al, api.Read, nil})
		} else {
			steps(t, s, past, doing{al, api.Add, list(v)})
			refused(t, s, doing{al, api.Add, nil})
			refused(t, s, doing{al, api.Add, list()})
			refused(t, s, doing{al, api.Add, list(v, v)})
			refused(t, s, doing{al, api.Add, list(v, nothing)})
			refused(t, s, doing{al, api.Add, list(v, isInt(0))})
			steps(t, s, past, doing{al, api.Read, nil})
			steps(t, s, past, doing{al, api.Read, list()})
			refused(t, s, doing{al, api.Read, list(v)})
			refused(t, s, doing{al, api.Read, list(nothing)})
			refused(t, s, doing{al, api.Take, nil})
			refused(t, s, doing{al, api.Free, nil})
		}
		for _, d := range []doing{
			{al, api.Write, list(v)}, {al, api.Swap, list(v, v)}, {al, api.Del, list(v)}, {al, api.Has, list(v)}, {al, api.Put, list(v, v)},
			{al, api.Get, list(v)}, {al, api.Push, list(v)}, {al, api.Pop, nil}, {al, api.Scan, list(v, v)},
		} {
			refused(t, s, d)
		}
	})
}

// Values of each kind, right and not right.
func TestValuesOfEachKind(t *testing.T) {
	eachPast(t, func(name string, s api.State, past []doing) {
		for _, op := range allOps {
			for _, v := range clients() {
				tries(t, s, past, doing{al, op, list(v)})
			}
			for _, v := range otherValues() {
				refused(t, s, doing{al, op, list(v)})
			}
			for _, v := range words() {
				refused(t, s, doing{al, op, list(v)})
			}
		}
		if s.Model == api.Lock {
			return
		}
		for _, v := range numbers() {
			steps(t, s, past, doing{al, api.Add, list(v)})
		}
	})
}

func TestClients(t *testing.T) {
	eachPast(t, func(name string, s api.State, past []doing) {
		all := []doing{adds(7), reads()}
		if s.Model == api.Lock {
			all = []doing{takes(al), frees(al)}
		}
		for _, d := range all {
			for _, client := range clients() {
				steps(t, s, past, doing{client, d.op, d.args})
			}
			for _, client := range otherValues() {
				refused(t, s, doing{client, d.op, d.args})
			}
		}
	})
}

// A state of no model of this layer does nothing: the one that New of another model
// answers, one that a step answers that may not be, and others.
func TestStatesOfOtherModels(t *testing.T) {
	none, _ := New(api.Max)
	never, _, _ := Step(runs(t, api.Counter, adds(7)), nothing, api.Read)
	for _, op := range append(slices.Clone(allOps), farNumbers...) {
		for many := range 3 {
			d := doing{al, op, slices.Repeat(list(isInt(7)), many)}
			refused(t, none, d)
			refused(t, never, d)
			for _, model := range []int{api.Register, api.Cas, api.Set, api.Map, api.Fifo, api.Stack, api.Max, api.Ordered, 11, -1, 263, 264} {
				refused(t, api.State{Model: model}, d)
			}
		}
	}
}

// P16.1: what each step comes to, told by hand.

// play is a step, what comes out, and what is kept behind it: who holds the lock, or
// the counter's number.
type play struct {
	do   doing
	out  []api.Value
	kept api.Value
}

func plays(t *testing.T, model int, all ...play) {
	t.Helper()
	s := first(t, model)
	for i, p := range all {
		next, out, ok := Step(s, p.do.client, p.do.op, p.do.args...)
		want := api.State{Model: model, One: p.kept}
		if model == api.Counter {
			want = api.State{Model: model, N: p.kept.N}
		}
		if !ok || !slices.Equal(out, p.out) || !isState(next, want) {
			t.Fatalf("model %d, step %d, %v: %#v, %v, %v, want %v, %v", model, i, p.do, next, out, ok, p.kept, p.out)
		}
		s = next
	}
}

func TestTake(t *testing.T) {
	for _, a := range clients() {
		plays(t, api.Lock,
			play{takes(a), list(yes), a},
			play{takes(a), list(no), a}, // again by the one that holds it
			play{takes(a), list(no), a},
			play{takes(bo), list(no), a}, // by another one
			play{takes(a), list(no), a},
			play{frees(a), list(yes), nothing},
			play{takes(a), list(yes), a}, // behind a Free
			play{takes(a), list(no), a},
			play{frees(a), list(yes), nothing},
			play{takes(bo), list(yes), bo},
			play{takes(a), list(no), bo},
			play{takes(bo), list(no), bo},
		)
	}
}

func TestFree(t *testing.T) {
	for _, a := range clients() {
		plays(t, api.Lock,
			play{frees(a), list(no), nothing}, // at first
			play{frees(a), list(no), nothing},
			play{frees(bo), list(no), nothing},
			play{takes(a), list(yes), a},
			play{frees(bo), list(no), a}, // by another one
			play{frees(bo), list(no), a},
			play{frees(a), list(yes), nothing},
			play{frees(a), list(no), nothing}, // again
			play{frees(bo), list(no), nothing},
			play{takes(bo), list(yes), bo},
			play{frees(a), list(no), bo},
			play{frees(bo), list(yes), nothing},
		)
	}
}

// Clients that are alike but for one thing are two: nobody else holds or frees what
// one of them holds.
func TestNoClientIsAnother(t *testing.T) {
	for _, a := range clients() {
		for _, b := range clients() {
			if a == b {
				continue
			}
			plays(t, api.Lock,
				play{takes(a), list(yes), a},
				play{takes(b), list(no), a},
				play{frees(b), list(no), a},
				play{frees(a), list(yes), nothing},
				play{frees(a), list(no), nothing},
				play{takes(b), list(yes), b},
				play{frees(a), list(no), b},
				play{frees(b), list(yes), nothing},
			)
		}
	}
}

func TestTwoByTurns(t *testing.T) {
	a, b := isInt(0), isWord("b")
	var all []play
	for range 20 {
		all = append(all,
			play{takes(a), list(yes), a}, play{takes(b), list(no), a}, play{frees(a), list(yes), nothing},
			play{takes(b), list(yes), b}, play{takes(a), list(no), b}, play{frees(b), list(yes), nothing},
		)
	}
	plays(t, api.Lock, all...)
}

func TestThreeByTurns(t *testing.T) {
	a, b, c := isWord("a"), isInt(-1), isInt(1)
	plays(t, api.Lock,
		play{takes(b), list(yes), b}, play{takes(c), list(no), b}, play{takes(a), list(no), b},
		play{frees(c), list(no), b}, play{frees(b), list(yes), nothing}, play{frees(b), list(no), nothing},
		play{takes(a), list(yes), a}, play{frees(b), list(no), a}, play{takes(c), list(no), a},
		play{frees(a), list(yes), nothing}, play{takes(c), list(yes), c}, play{takes(b), list(no), c},
		play{frees(a), list(no), c}, play{takes(c), list(no), c}, play{frees(c), list(yes), nothing},
		play{frees(a), list(no), nothing}, play{takes(b), list(yes), b},
	)
	who := []api.Value{a, b, c}
	var all []play
	for i := range 30 {
		me, next := who[i%3], who[(i+1)%3]
		all = append(all, play{takes(me), list(yes), me}, play{frees(next), list(no), me}, play{takes(next), list(no), me}, play{frees(me), list(yes), nothing})
	}
	plays(t, api.Lock, all...)
}

// adding is a play of a step that adds n, behind which the counter has come to kept.
func adding(n, kept int64) play {
	return play{adds(n), nil, isInt(kept)}
}

// reading is a play of a step that reads n.
func reading(n int64) play {
	return play{reads(), list(isInt(n)), isInt(n)}
}

func TestAdd(t *testing.T) {
	plays(t, api.Counter,
		reading(0), reading(0), // at first
		adding(0, 0), reading(0), // of nothing more
		adding(1, 1), reading(1), reading(1),
		adding(1, 2), adding(0, 2), reading(2),
		adding(-1, 1), adding(-1, 0), reading(0),
		adding(-1, -1), reading(-1), reading(-1),
		adding(-41, -42), adding(0, -42), reading(-42),
		adding(42, 0), reading(0),
		adding(5, 5), adding(-7, -2), reading(-2),
		adding(1<<32, 1<<32-2), reading(1<<32-2),
	)
}

// Past the greatest number, and past the least one, where it comes round.
func TestAddComesRound(t *testing.T) {
	plays(t, api.Counter,
		adding(greatest, greatest), reading(greatest),
		adding(0, greatest), adding(1, least), reading(least), reading(least),
		adding(-1, greatest), reading(greatest),
		adding(2, least+1), adding(-2, greatest),
		adding(greatest, -2), reading(-2),
		adding(greatest, greatest-2), adding(2, greatest), reading(greatest),
	)
	plays(t, api.Counter,
		adding(least, least), reading(least),
		adding(0, least), adding(-1, greatest), reading(greatest), reading(greatest),
		adding(1, least), reading(least),
		adding(-2, greatest-1), adding(2, least),
		adding(least, 0), reading(0),
		adding(least, least), adding(greatest, -1), reading(-1),
	)
	plays(t, api.Counter, adding(1, 1), adding(greatest, least), reading(least), adding(-1, greatest))
	plays(t, api.Counter, adding(-1, -1), adding(least, greatest), reading(greatest), adding(1, least))
	plays(t, api.Counter, adding(greatest, greatest), adding(least, -1), reading(-1))
	plays(t, api.Counter, adding(5, 5), adding(-7, -2), adding(greatest, greatest-2), adding(3, least), reading(least))
}

// Each number on each other one.
func TestAddOfEachToEach(t *testing.T) {
	for _, v := range numbers() {
		for _, w := range numbers() {
			runs(t, api.Counter, adds(v.N), reads(), adds(w.N), reads(), adds(v.N), reads(), adds(-w.N), reads())
		}
	}
}

// In which order numbers are added makes no difference, where they come round or not.
func TestAddInAnyOrder(t *testing.T) {
	r := rand.New(rand.NewSource(16))
	for range 100 {
		var all, turned []doing
		for range 20 {
			all = append(all, adds(int64(r.Uint64())))
		}
		for _, i := range r.Perm(len(all)) {
			turned = append(turned, all[i])
		}
		if s := runs(t, api.Counter, turned...); !isState(s, comesTo(api.Counter, all)) {
			t.Fatalf("%v: %v", turned, s)
		}
	}
}

func TestExamples(t *testing.T) {
	a, b := isWord("a"), isWord("b")
	plays(t, api.Lock,
		play{takes(a), list(yes), a}, play{takes(b), list(no), a},
		play{frees(b), list(no), a}, play{frees(a), list(yes), nothing},
	)
}

// P16.1, P16.2: every short run of steps, and longer ones at random.

// eachStep are steps that may be of a state of the model.
func eachStep(model int) []doing {
	if model == api.Lock {
		return []doing{takes(isInt(0)), takes(isInt(1)), takes(isWord("a")), frees(isInt(0)), frees(isInt(1)), frees(isWord("a"))}
	}
	return []doing{adds(0), adds(1), adds(-2), adds(greatest), adds(least), reads()}
}

func TestEveryShortRun(t *testing.T) {
	for _, model := range models {
		all := eachStep(model)
		var past []doing
		var goOn func(s api.State)
		goOn = func(s api.State) {
			if len(past) == 6 {
				return
			}
			for _, d := range all {
				next := steps(t, s, past, d)
				past = append(past, d)
				goOn(next)
				past = past[:len(past)-1]
			}
		}
		goOn(first(t, model))
	}
}

// Every run of two clients, a longer while.
func TestEveryRunOfTwo(t *testing.T) {
	a, b := isWord("a"), isInt(0)
	all := []doing{takes(a), takes(b), frees(a), frees(b)}
	for told := range 1 << 16 {
		var past []doing
		s := first(t, api.Lock)
		for i := range 8 {
			d := all[told>>(2*i)&3]
			s = steps(t, s, past, d)
			past = append(past, d)
		}
	}
}

// drawn is a step of some client, that mostly may be of a state of the model.
func drawn(r *rand.Rand, model int) doing {
	some := []api.Value{isInt(0), isInt(1), isInt(-1), isWord("a"), al}
	if r.Intn(10) == 0 {
		some = clients()
	}
	if r.Intn(30) == 0 {
		some = otherValues()
	}
	d := doing{client: some[r.Intn(len(some))], op: api.Take + r.Intn(2)}
	if model == api.Counter {
		d.op = []int{api.Add, api.Read}[r.Intn(2)]
	}
	if r.Intn(30) == 0 {
		d.op = r.Intn(15)
	}
	many := 0
	if d.op == api.Add {
		many = 1
	}
	if r.Intn(30) == 0 {
		many = r.Intn(3)
	}
	for range many {
		v := isInt(int64(r.Uint64()) >> r.Intn(64))
		if r.Intn(30) == 0 {
			v = append(otherValues(), words()...)[r.Intn(30)]
		}
		d.args = append(d.args, v)
	}
	return d
}

func TestLongRunsAtRandom(t *testing.T) {
	r := rand.New(rand.NewSource(42))
	for _, model := range models {
		refusals := 0
		for range 100 {
			s := first(t, model)
			var past []doing
			for range 100 {
				d := drawn(r, model)
				tries(t, s, past, d)
				if !mayBe(model, d) {
					refusals++
					continue
				}
				s, _, _ = Step(s, d.client, d.op, d.args...)
				past = append(past, d)
			}
		}
		if refusals < 300 {
			t.Errorf("model %d: only %d steps were refused", model, refusals)
		}
	}
}

// P16.2: the same steps come to the same, whatever was done between them.
func TestTheSameStepsComeToTheSame(t *testing.T) {
	r := rand.New(rand.NewSource(29))
	for i := range 200 {
		model := models[i%2]
		here, there := first(t, model), first(t, model)
		for range 30 {
			d := drawn(r, model)
			next, out, ok := Step(here, d.client, d.op, d.args...)
			for range 3 {
				other := models[r.Intn(2)]
				x := drawn(r, other)
				s, _ := New(other)
				Step(s, x.client, x.op, x.args...)
				Step(here, x.client, x.op, x.args...)
			}
			again, out2, ok2 := Step(there, d.client, d.op, d.args...)
			if ok != ok2 || !slices.Equal(out, out2) || !isState(again, next) {
				t.Fatalf("%v came once to %v, %v, %v and once to %v, %v, %v", d, next, out, ok, again, out2, ok2)
			}
			if ok {
				here, there = next, again
			}
		}
	}
}

// Who counts makes no difference.
func TestAnyClientCountsTheSame(t *testing.T) {
	for _, past := range pasts(api.Counter) {
		s := runs(t, api.Counter, past...)
		for _, d := range eachStep(api.Counter) {
			want, wantOut, _ := Step(s, d.client, d.op, d.args...)
			for _, client := range clients() {
				next, out, ok := Step(s, client, d.op, d.args...)
				if !ok || !isState(next, want) || !slices.Equal(out, wantOut) {
					t.Fatalf("behind %v: %v of %v: %v, %v, %v", past, d, client, next, out, ok)
				}
			}
		}
	}
}

// Rules.

// R3: no values are nil or empty, which is one; so is the list of such a state.
func TestNilAndEmpty(t *testing.T) {
	for _, model := range models {
		for _, l := range [][]api.Value{nil, {}, list(al)[:0]} {
			s := first(t, model)
			s.L = l
			for _, d := range eachStep(model) {
				steps(t, s, nil, d)
				if len(d.args) == 0 {
					steps(t, s, nil, doing{d.client, d.op, list()})
				}
			}
			refused(t, s, doing{al, api.Add, list()})
		}
	}
}

// withRoom is l with room for two values behind it, that are told too.
func withRoom(l []api.Value) (short, full []api.Value) {
	full = append(append(make([]api.Value, 0, len(l)+2), l...), isWord("spare"), isWord("room"))
	return full[:len(l)], full
}

// R4: what is handed in stays, spare room included, the state among it.
func TestWhatIsHandedInStays(t *testing.T) {
	eachPast(t, func(name string, was api.State, past []doing) {
		for _, op := range allOps {
			for _, v := range append(clients(), nothing, yes) {
				for many := range 3 {
					args, allArgs := withRoom(slices.Repeat(list(v), many))
					wasArgs := slices.Clone(allArgs)
					l, allOfIt := withRoom(nil)
					wasAll := slices.Clone(allOfIt)
					s := api.State{Model: was.Model, One: was.One, N: was.N, L: l}
					Step(s, al, op, args...)
					if !slices.Equal(allArgs, wasArgs) || !slices.Equal(allOfIt, wasAll) {
						t.Fatalf("%s: Step(%d, %v) changed what was handed in: %v, %v", name, op, args, allArgs, allOfIt)
					}
				}
			}
		}
	})
}

// Two steps from one elder state disturb neither each other nor that state.
func TestTwoStepsFromOneState(t *testing.T) {
	for _, model := range models {
		for _, past := range pasts(model) {
			s := runs(t, model, past...)
			for _, one := range eachStep(model) {
				for _, other := range eachStep(model) {
					left := steps(t, s, past, one)
					right := steps(t, s, past, other)
					steps(t, left, append(slices.Clone(past), one), other)
					steps(t, right, append(slices.Clone(past), other), one)
					if !isState(s, comesTo(model, past)) {
						t.Fatalf("behind %v: %v and %v: %v", past, one, other, s)
					}
				}
			}
		}
	}
}

// An elder state goes on as it was, whatever is done with those behind it.
func TestElderStatesStay(t *testing.T) {
	r := rand.New(rand.NewSource(8))
	for i := range 60 {
		model := models[i%2]
		choice := eachStep(model)
		var past []doing
		all := []api.State{first(t, model)}
		for range 16 {
			d := choice[r.Intn(len(choice))]
			all = append(all, steps(t, all[len(all)-1], past, d))
			past = append(past, d)
		}
		for _, i := range r.Perm(len(all)) {
			for _, d := range choice {
				steps(t, all[i], past[:i], d)
			}
		}
		for i, s := range all {
			if !isState(s, comesTo(model, past[:i])) {
				t.Fatalf("behind %v: %v", past[:i], s)
			}
		}
	}
}

func spoil(l []api.Value) {
	l = l[:cap(l)]
	for i := range l {
		l[i] = isWord("spoiled")
	}
}

// R4: what is answered is new, spare room included.
func TestWhatIsAnsweredIsNew(t *testing.T) {
	eachPast(t, func(name string, s api.State, past []doing) {
		for _, d := range eachStep(s.Model) {
			args, allArgs := withRoom(d.args)
			wasArgs := slices.Clone(allArgs)
			_, out, _ := Step(s, d.client, d.op, args...)
			elder, elderOut, _ := Step(s, d.client, d.op, args...)
			wantOut := slices.Clone(elderOut)
			spoil(out)
			if !slices.Equal(allArgs, wasArgs) || !slices.Equal(elderOut, wantOut) {
				t.Fatalf("%s: what %v answers is shared", name, d)
			}
			spoil(args)
			if !slices.Equal(elderOut, wantOut) || !isState(elder, comesTo(s.Model, append(slices.Clone(past), d))) {
				t.Fatalf("%s: what was handed in to %v is kept", name, d)
			}
			steps(t, s, past, d)
			steps(t, elder, append(slices.Clone(past), d), d)
		}
	})
	for _, model := range models {
		first(t, model)
	}
}

// FuzzHold does steps out of bytes: the first tells the model, two more each a step.
func FuzzHold(f *testing.F) {
	f.Add([]byte{0, 0, 3, 0, 4, 1, 4, 1, 3, 0, 4, 1, 4, 16, 3})
	f.Add([]byte{1, 0, 3, 0, 4, 1, 0, 0, 15, 1, 0, 0, 0, 1, 0})
	f.Add([]byte{1, 4, 0xf1, 8, 0xc2, 3, 1, 12, 0xff})
	f.Fuzz(func(t *testing.T, told []byte) {
		if len(told) == 0 {
			return
		}
		values := list(isInt(0), isInt(1), isInt(-1), isInt(least), isInt(greatest), isInt(7), al, bo, isWord("a"), isWord("b"), nothing, yes, no, isWord("A"), api.Value{N: 1}, api.Value{Kind: api.Int, S: "1"})
		model := models[told[0]&1]
		s := first(t, model)
		var past []doing
		for told = told[1:]; len(told) > 1 && len(past) < 100; told = told[2:] {
			a, b := values[told[1]&15], values[told[1]>>4]
			d := doing{a, []int{api.Take, api.Free}[told[0]&1], nil}
			if model == api.Counter {
				d = doing{b, []int{api.Add, api.Read}[told[0]&1], list(a)[told[0]&1:]}
			}
			if told[0]&8 != 0 {
				d.args = list(a, b)[:told[1]%3]
			}
			if told[0]&16 != 0 {
				d.op = int(told[0] >> 4)
			}
			tries(t, s, past, d)
			if mayBe(model, d) {
				s, _, _ = Step(s, d.client, d.op, d.args...)
				past = append(past, d)
			}
		}
	})
}
