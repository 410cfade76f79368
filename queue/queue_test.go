package queue

import (
	"fmt"
	"math"
	"math/rand"
	"regexp"
	"slices"
	"strings"
	"testing"

	"incognito/api"
	"incognito/sign"
)

// What the chapter says, looked up in all steps that were done, without a state.

var models = []int{api.Fifo, api.Stack}

var allOps = []int{
	api.Write, api.Read, api.Swap, api.Add, api.Del, api.Has, api.Put,
	api.Get, api.Push, api.Pop, api.Take, api.Free, api.Scan,
}

// Numbers that are no model's, and nothing's that is done.
var farNumbers = []int{math.MinInt, math.MinInt + 1, -1 << 32, -256, -15, -10, -9, -6, -5, -2, -1, 0, 14, 15, 16, 64, 255, 256, 257, 261, 262, 265, 266, 1 << 16, 1 << 32, 1<<32 + 5, 1<<32 + 6, 1<<32 + 9, math.MaxInt - 1, math.MaxInt}

func isInt(n int64) api.Value   { return api.Value{Kind: api.Int, N: n} }
func isWord(s string) api.Value { return api.Value{Kind: api.Word, S: s} }
func isBool(n int64) api.Value  { return api.Value{Kind: api.Bool, N: n} }

func list(values ...api.Value) []api.Value { return values }

func ints(numbers ...int64) []api.Value {
	var l []api.Value
	for _, n := range numbers {
		l = append(l, isInt(n))
	}
	return l
}

var (
	nothing = api.Value{}
	al      = isWord("al")
	yes     = isBool(1)
	no      = isBool(0)
)

// takenValues are values that may be handed in.
func takenValues() []api.Value {
	return []api.Value{
		isInt(math.MinInt64), isInt(-10), isInt(-9), isInt(-1), isInt(0), isInt(1), isInt(2), isInt(9), isInt(10), isInt(math.MaxInt64),
		isWord("a"), isWord("a0"), isWord("a_"), isWord("aa"), isWord("ab"), isWord("b"), isWord("t"), isWord("z"), isWord("z9_"), isWord(strings.Repeat("z", 40)),
	}
}

// otherValues are those that may not: nothing, yes and no, and all that isn't right.
func otherValues() []api.Value {
	return []api.Value{
		nothing, yes, no,
		{N: 1}, {S: "a"}, {N: 7, S: "al"},
		{Kind: api.Int, S: "a"}, {Kind: api.Int, N: 7, S: "7"},
		{Kind: api.Word}, {Kind: api.Word, N: 1, S: "a"}, {Kind: api.Word, S: "A"}, {Kind: api.Word, S: "7"}, {Kind: api.Word, S: "~"}, {Kind: api.Word, S: "a b"}, {Kind: api.Word, S: strings.Repeat("a", 41)},
		{Kind: api.Bool, N: 2}, {Kind: api.Bool, N: -1}, {Kind: api.Bool, S: "a"},
		{Kind: 4}, {Kind: -1, N: 1}, {Kind: 257, N: 7}, {Kind: math.MinInt}, {Kind: math.MaxInt},
	}
}

var wordForm = regexp.MustCompile(`\A[a-z][a-z0-9_]{0,39}\z`)

// taken tells whether v is a number or a word.
func taken(v api.Value) bool {
	return v == isInt(v.N) || v == isWord(v.S) && wordForm.MatchString(v.S)
}

// doing is one step.
type doing struct {
	client api.Value
	op     int
	args   []api.Value
}

func pushing(v api.Value) doing { return doing{al, api.Push, list(v)} }
func popping() doing            { return doing{al, api.Pop, nil} }

// pushes are steps that push these, one by one.
func pushes(values ...api.Value) []doing {
	var all []doing
	for _, v := range values {
		all = append(all, pushing(v))
	}
	return all
}

// pops are so many steps that pop.
func pops(many int) []doing {
	return slices.Repeat([]doing{popping()}, many)
}

// mayBe tells whether a step of a queue or a stack may be.
func mayBe(d doing) bool {
	switch d.op {
	case api.Push:
		return taken(d.client) && len(d.args) == 1 && taken(d.args[0])
	case api.Pop:
		return taken(d.client) && len(d.args) == 0
	}
	return false
}

// surplus is by how many the pushes are more than the pops.
func surplus(steps []doing) int {
	n := 0
	for _, d := range steps {
		if d.op == api.Push {
			n++
		} else {
			n--
		}
	}
	return n
}

// waits tells whether what the step at i pushed waits behind all of these steps.
func waits(model int, past []doing, i int) bool {
	if past[i].op != api.Push {
		return false
	}
	behind := past[i+1:]
	if model == api.Stack {
		// It is taken by the first pop that all pushes behind it don't make up for.
		for many := range behind {
			if surplus(behind[:many+1]) < 0 {
				return false
			}
		}
		return true
	}
	// As many wait as pushes were more than pops since some time, whichever, for pops
	// of what is empty take nothing; and those that wait are the last that came.
	most := 0
	for from := range past {
		most = max(most, surplus(past[from:]))
	}
	later := 0
	for _, d := range behind {
		if d.op == api.Push {
			later++
		}
	}
	return later < most
}

// content is what waits behind these steps, each of which may be.
func content(model int, past []doing) []api.Value {
	var l []api.Value
	for i, d := range past {
		if waits(model, past, i) {
			l = append(l, d.args[0])
		}
	}
	return l
}

// comes is what comes out of a step where l waits.
func comes(model int, l []api.Value, d doing) []api.Value {
	switch {
	case d.op == api.Push:
		return nil
	case len(l) == 0:
		return list(nothing)
	case model == api.Fifo:
		return list(l[0])
	}
	return list(l[len(l)-1])
}

// isState tells whether s is the model's state where these wait, and zero else.
func isState(s api.State, model int, values []api.Value) bool {
	return s.Model == model && slices.Equal(s.L, values) && s.One == nothing && s.N == 0
}

// isZero tells whether s is the zero state.
func isZero(s api.State) bool {
	return isState(s, 0, nil) && cap(s.L) == 0
}

func first(t *testing.T, model int) api.State {
	t.Helper()
	s, ok := New(model)
	if !ok || !isState(s, model, nil) {
		t.Fatalf("New(%d) = %#v, %v", model, s, ok)
	}
	return s
}

// steps does a step that may be, behind past, and wants the chapter's answer.
func steps(t *testing.T, s api.State, past []doing, d doing) api.State {
	t.Helper()
	next, out, ok := Step(s, d.client, d.op, d.args...)
	l := content(s.Model, append(slices.Clone(past), d))
	want := comes(s.Model, content(s.Model, past), d)
	if !ok || !isState(next, s.Model, l) || !slices.Equal(out, want) {
		t.Fatalf("model %d, behind %v: Step(%v) = %#v, %v, %v, want %v to wait and %v", s.Model, past, d, next, out, ok, l, want)
	}
	if _, ok := sign.Outs(s.Model, d.op, out...); !ok {
		t.Fatalf("model %d, behind %v: %v came out of %v, which may not", s.Model, past, out, d)
	}
	return next
}

// refused wants the step not to be.
func refused(t *testing.T, s api.State, d doing) {
	t.Helper()
	next, out, ok := Step(s, d.client, d.op, d.args...)
	if ok || len(out) != 0 || cap(out) != 0 || !isZero(next) {
		t.Fatalf("Step(%v, %v) = %#v, %v, %v", s, d, next, out, ok)
	}
}

// tries does the step if it may be, and else wants it refused.
func tries(t *testing.T, s api.State, past []doing, d doing) {
	t.Helper()
	if mayBe(d) {
		steps(t, s, past, d)
		return
	}
	refused(t, s, d)
}

// runs does all steps from the first state on, and answers the last one's state.
func runs(t *testing.T, model int, all ...doing) api.State {
	t.Helper()
	s := first(t, model)
	for i, d := range all {
		s = steps(t, s, all[:i], d)
	}
	return s
}

// P15.1: New.

func TestNew(t *testing.T) {
	for _, model := range models {
		first(t, model)
	}
}

func TestNewOfEveryOtherModel(t *testing.T) {
	others := []int{api.Register, api.Cas, api.Set, api.Map, api.Lock, api.Counter, api.Max, api.Ordered, 11, 12, 13}
	for _, model := range append(others, farNumbers...) {
		if s, ok := New(model); ok || !isZero(s) {
			t.Errorf("New(%d) = %#v, %v", model, s, ok)
		}
	}
	for model := -300; model <= 300; model++ {
		if _, ok := New(model); ok != slices.Contains(models, model) {
			t.Errorf("New(%d) answers %v", model, ok)
		}
	}
}

// P15.1: which steps may be.

// pasts are some ways to come to a state: at first, with some that wait, and emptied.
func pasts() map[string][]doing {
	seven := pushing(isInt(7))
	return map[string][]doing{
		"at first":         nil,
		"with 7":           {seven},
		"with a":           pushes(isWord("a")),
		"with two":         pushes(isInt(8), isWord("b")),
		"with many":        pushes(takenValues()...),
		"with 7 again":     {seven, seven},
		"emptied":          {seven, popping()},
		"emptied, and one": {seven, popping(), popping(), pushing(isInt(9))},
		"some popped":      append(pushes(takenValues()...), pops(3)...),
	}
}

// eachPast does what is asked with each model and each past.
func eachPast(t *testing.T, asked func(name string, s api.State, past []doing)) {
	t.Helper()
	for _, model := range models {
		for name, past := range pasts() {
			asked(fmt.Sprintf("model %d, %s", model, name), runs(t, model, past...), past)
		}
	}
}

// Each thing that is done, and numbers around, with 0 to 4 values.
func TestStepOfEachThing(t *testing.T) {
	eachPast(t, func(name string, s api.State, past []doing) {
		done := 0
		for _, op := range append(slices.Clone(allOps), farNumbers...) {
			for many := range 5 {
				d := doing{al, op, slices.Repeat(ints(7), many)}
				tries(t, s, past, d)
				if _, _, ok := Step(s, d.client, d.op, d.args...); ok {
					done++
				}
			}
		}
		if done != 2 {
			t.Errorf("%s: %d things can be done, not 2", name, done)
		}
	})
}

// As many values as it wants, one fewer and one more, told one by one.
func TestHowManyValues(t *testing.T) {
	v := isInt(7)
	eachPast(t, func(name string, s api.State, past []doing) {
		steps(t, s, past, doing{al, api.Push, list(v)})
		refused(t, s, doing{al, api.Push, nil})
		refused(t, s, doing{al, api.Push, list()})
		refused(t, s, doing{al, api.Push, list(v, v)})
		refused(t, s, doing{al, api.Push, list(v, nothing)})
		refused(t, s, doing{al, api.Push, list(v, isInt(8))})
		refused(t, s, doing{al, api.Push, list(v, v, v)})
		steps(t, s, past, doing{al, api.Pop, nil})
		steps(t, s, past, doing{al, api.Pop, list()})
		refused(t, s, doing{al, api.Pop, list(v)})
		refused(t, s, doing{al, api.Pop, list(nothing)})
		refused(t, s, doing{al, api.Pop, list(v, v)})
		for _, d := range []doing{
			{al, api.Read, nil}, {al, api.Write, list(v)}, {al, api.Swap, list(v, v)},
			{al, api.Add, list(v)}, {al, api.Del, list(v)}, {al, api.Has, list(v)},
			{al, api.Put, list(v, v)}, {al, api.Get, list(v)}, {al, api.Scan, list(v, v)},
			{al, api.Take, nil}, {al, api.Free, nil},
		} {
			refused(t, s, d)
		}
	})
}

// Values of each kind, right and not right.
func TestValuesOfEachKind(t *testing.T) {
	eachPast(t, func(name string, s api.State, past []doing) {
		for _, op := range allOps {
			for _, v := range append(takenValues(), otherValues()...) {
				tries(t, s, past, doing{al, op, list(v)})
			}
			for _, v := range otherValues() {
				refused(t, s, doing{al, op, list(v)})
			}
		}
		for _, v := range takenValues() {
			steps(t, s, past, pushing(v))
			refused(t, s, doing{al, api.Pop, list(v)})
		}
	})
}

func TestClients(t *testing.T) {
	eachPast(t, func(name string, s api.State, past []doing) {
		for _, client := range takenValues() {
			steps(t, s, past, doing{client, api.Push, ints(7)})
			steps(t, s, past, doing{client, api.Pop, nil})
		}
		for _, client := range otherValues() {
			refused(t, s, doing{client, api.Push, ints(7)})
			refused(t, s, doing{client, api.Pop, nil})
		}
	})
}

// A state of no model of this layer does nothing: the one that New of another model
// answers, one that a step answers that may not be, and others.
func TestStatesOfOtherModels(t *testing.T) {
	none, _ := New(api.Set)
	never, _, _ := Step(runs(t, api.Fifo, pushing(isInt(7))), nothing, api.Pop)
	for _, op := range append(slices.Clone(allOps), farNumbers...) {
		for many := range 3 {
			d := doing{al, op, slices.Repeat(ints(7), many)}
			refused(t, none, d)
			refused(t, never, d)
			for _, model := range []int{api.Register, api.Cas, api.Set, api.Map, api.Lock, api.Counter, api.Max, api.Ordered, 11, -1} {
				refused(t, api.State{Model: model}, d)
			}
		}
	}
}

// P15.1: what each step comes to, told by hand.

// play is a step, what comes out, and what waits behind it.
type play struct {
	do   doing
	out  []api.Value
	left []api.Value
}

func plays(t *testing.T, model int, all ...play) {
	t.Helper()
	s := first(t, model)
	for i, p := range all {
		next, out, ok := Step(s, p.do.client, p.do.op, p.do.args...)
		if !ok || !slices.Equal(out, p.out) || !isState(next, model, p.left) {
			t.Fatalf("model %d, step %d, %v: %#v, %v, %v, want %v, %v", model, i, p.do, next, out, ok, p.left, p.out)
		}
		s = next
	}
}

// What is pushed stands at the end, of a queue as of a stack.
func TestPush(t *testing.T) {
	a := isWord("a")
	for _, model := range models {
		plays(t, model,
			play{pushing(isInt(5)), nil, ints(5)},       // at first
			play{pushing(isInt(5)), nil, ints(5, 5)},    // the same again
			play{pushing(isInt(3)), nil, ints(5, 5, 3)}, // a lesser one
			play{pushing(isInt(9)), nil, ints(5, 5, 3, 9)},
			play{pushing(isInt(-9)), nil, ints(5, 5, 3, 9, -9)},
			play{pushing(isInt(5)), nil, ints(5, 5, 3, 9, -9, 5)},
			play{pushing(a), nil, append(ints(5, 5, 3, 9, -9, 5), a)},
			play{pushing(isInt(0)), nil, append(ints(5, 5, 3, 9, -9, 5), a, isInt(0))},
			play{pushing(a), nil, append(ints(5, 5, 3, 9, -9, 5), a, isInt(0), a)},
		)
		for _, v := range takenValues() {
			plays(t, model, play{pushing(v), nil, list(v)}, play{pushing(v), nil, list(v, v)}, play{pushing(al), nil, list(v, v, al)})
		}
		s := runs(t, model, pushes(takenValues()...)...)
		if !isState(s, model, takenValues()) {
			t.Errorf("model %d: %v", model, s)
		}
	}
}

func TestPopOfWhatIsEmpty(t *testing.T) {
	for _, model := range models {
		empty := play{popping(), list(nothing), nil}
		plays(t, model, empty, empty, empty)
		plays(t, model,
			empty,
			play{pushing(isInt(7)), nil, ints(7)}, // pops of what is empty take nothing of what comes
			play{popping(), ints(7), nil},
			empty, empty,
			play{pushing(isWord("a")), nil, list(isWord("a"))},
			play{pushing(isInt(0)), nil, list(isWord("a"), isInt(0))},
		)
	}
}

// The only one.
func TestPopOfOne(t *testing.T) {
	for _, model := range models {
		for _, v := range takenValues() {
			plays(t, model,
				play{pushing(v), nil, list(v)}, play{popping(), list(v), nil}, play{popping(), list(nothing), nil},
				play{pushing(v), nil, list(v)}, play{popping(), list(v), nil},
			)
		}
	}
}

func TestPopOfTwo(t *testing.T) {
	a, b := isInt(-2), isWord("b")
	two := []play{{pushing(a), nil, list(a)}, {pushing(b), nil, list(a, b)}}
	plays(t, api.Fifo, append(slices.Clip(two),
		play{popping(), list(a), list(b)}, play{popping(), list(b), nil}, play{popping(), list(nothing), nil}, play{pushing(a), nil, list(a)})...)
	plays(t, api.Stack, append(slices.Clip(two),
		play{popping(), list(b), list(a)}, play{popping(), list(a), nil}, play{popping(), list(nothing), nil}, play{pushing(a), nil, list(a)})...)
	plays(t, api.Fifo, append(slices.Clip(two),
		play{popping(), list(a), list(b)}, play{pushing(a), nil, list(b, a)}, play{popping(), list(b), list(a)}, play{popping(), list(a), nil})...)
	plays(t, api.Stack, append(slices.Clip(two),
		play{popping(), list(b), list(a)}, play{pushing(b), nil, list(a, b)}, play{popping(), list(b), list(a)}, play{popping(), list(a), nil})...)
}

// The same value, pushed twice, waits twice.
func TestPopOfTheSameAgain(t *testing.T) {
	for _, model := range models {
		plays(t, model,
			play{pushing(isInt(5)), nil, ints(5)}, play{pushing(isInt(5)), nil, ints(5, 5)},
			play{popping(), ints(5), ints(5)}, play{popping(), ints(5), nil}, play{popping(), list(nothing), nil},
		)
	}
	plays(t, api.Fifo,
		play{pushing(isInt(5)), nil, ints(5)}, play{pushing(isInt(6)), nil, ints(5, 6)}, play{pushing(isInt(5)), nil, ints(5, 6, 5)},
		play{popping(), ints(5), ints(6, 5)}, play{popping(), ints(6), ints(5)}, play{popping(), ints(5), nil},
	)
	plays(t, api.Stack,
		play{pushing(isInt(5)), nil, ints(5)}, play{pushing(isInt(6)), nil, ints(5, 6)}, play{pushing(isInt(5)), nil, ints(5, 6, 5)},
		play{popping(), ints(5), ints(5, 6)}, play{popping(), ints(6), ints(5)}, play{popping(), ints(5), nil},
	)
}

func TestPushesAndPopsByTurns(t *testing.T) {
	a := isWord("a")
	plays(t, api.Fifo,
		play{pushing(isInt(1)), nil, ints(1)}, play{pushing(isInt(2)), nil, ints(1, 2)}, play{popping(), ints(1), ints(2)},
		play{pushing(isInt(3)), nil, ints(2, 3)}, play{pushing(a), nil, append(ints(2, 3), a)}, play{popping(), ints(2), append(ints(3), a)},
		play{popping(), ints(3), list(a)}, play{pushing(isInt(-1)), nil, list(a, isInt(-1))}, play{popping(), list(a), ints(-1)},
		play{popping(), ints(-1), nil}, play{popping(), list(nothing), nil}, play{pushing(isInt(0)), nil, ints(0)}, play{popping(), ints(0), nil},
	)
	plays(t, api.Stack,
		play{pushing(isInt(1)), nil, ints(1)}, play{pushing(isInt(2)), nil, ints(1, 2)}, play{popping(), ints(2), ints(1)},
		play{pushing(isInt(3)), nil, ints(1, 3)}, play{pushing(a), nil, append(ints(1, 3), a)}, play{popping(), list(a), ints(1, 3)},
		play{popping(), ints(3), ints(1)}, play{pushing(isInt(-1)), nil, ints(1, -1)}, play{popping(), ints(-1), ints(1)},
		play{popping(), ints(1), nil}, play{popping(), list(nothing), nil}, play{pushing(isInt(0)), nil, ints(0)}, play{popping(), ints(0), nil},
	)
}

func TestExamples(t *testing.T) {
	one, two := play{pushing(isInt(1)), nil, ints(1)}, play{pushing(isInt(2)), nil, ints(1, 2)}
	plays(t, api.Fifo, one, two, play{popping(), ints(1), ints(2)})
	plays(t, api.Stack, one, two, play{popping(), ints(2), ints(1)})
}

// P15.1: in which order what was pushed comes out.

// emptied pops until nothing comes out, and once more, and answers what came.
func emptied(t *testing.T, s api.State) []api.Value {
	t.Helper()
	var came []api.Value
	for {
		next, out, ok := Step(s, al, api.Pop)
		if !ok || len(out) != 1 {
			t.Fatalf("pop of %v: %v, %v", s, out, ok)
		}
		if out[0] == nothing {
			again, out, ok := Step(next, al, api.Pop)
			if !isState(next, s.Model, nil) || !ok || !slices.Equal(out, list(nothing)) || !isState(again, s.Model, nil) {
				t.Fatalf("emptied: %#v, then %#v, %v, %v", next, again, out, ok)
			}
			return came
		}
		came = append(came, out[0])
		s = next
	}
}

// inTurn are the values in the order in which they come out.
func inTurn(model int, values []api.Value) []api.Value {
	l := slices.Clone(values)
	if model == api.Stack {
		slices.Reverse(l)
	}
	return l
}

func TestInWhichOrderTheyCome(t *testing.T) {
	r := rand.New(rand.NewSource(15))
	for _, model := range models {
		for many := range 70 {
			var l []api.Value
			for range many {
				l = append(l, takenValues()[r.Intn(20)])
			}
			s := runs(t, model, pushes(l...)...)
			if came := emptied(t, s); !slices.Equal(came, inTurn(model, l)) {
				t.Fatalf("model %d: pushed %v, popped %v", model, l, came)
			}
		}
	}
}

func TestMany(t *testing.T) {
	const many = 3000
	for _, model := range models {
		s := first(t, model)
		var l []api.Value
		for n := range many {
			l = append(l, isInt(int64(n%1000)))
			s, _, _ = Step(s, al, api.Push, l[n])
		}
		if !isState(s, model, l) {
			t.Fatalf("model %d: %d wait", model, len(s.L))
		}
		if came := emptied(t, s); !slices.Equal(came, inTurn(model, l)) {
			t.Fatalf("model %d: %d came out, not in their turn", model, len(came))
		}
	}
}

// A queue through which more goes than ever waits in it.
func TestLongTurns(t *testing.T) {
	s := first(t, api.Fifo)
	for n := range int64(5000) {
		s, _, _ = Step(s, al, api.Push, isInt(n))
		if n < 3 {
			continue
		}
		next, out, ok := Step(s, al, api.Pop)
		if !ok || !slices.Equal(out, ints(n-3)) || !isState(next, api.Fifo, ints(n-2, n-1, n)) {
			t.Fatalf("%d: %#v, %v, %v", n, next, out, ok)
		}
		s = next
	}
}

// P15.1, P15.2: every short run of steps, and longer ones at random.

// eachStep are the steps that may be, with these values.
func eachStep(values ...api.Value) []doing {
	return append(pushes(values...), popping())
}

func TestEveryShortRun(t *testing.T) {
	all := eachStep(isInt(-1), isInt(1), isWord("a"))
	for _, model := range models {
		var past []doing
		var goOn func(s api.State)
		goOn = func(s api.State) {
			if len(past) == 7 {
				return
			}
			for _, d := range all {
				next := steps(t, s, past, d)
				past = append(past, d)
				goOn(next)
				past = past[:len(past)-1]
			}
		}
		goOn(first(t, model))
	}
}

// Every run of pushes of one value and pops, a longer while.
func TestEveryRunOfOneValue(t *testing.T) {
	for _, model := range models {
		for told := range 1 << 10 {
			var past []doing
			s := first(t, model)
			for i := range 10 {
				d := popping()
				if told>>i&1 == 1 {
					d = pushing(isInt(int64(i)))
				}
				s = steps(t, s, past, d)
				past = append(past, d)
			}
		}
	}
}

// drawn is a step of some client, that mostly may be.
func drawn(r *rand.Rand) doing {
	some := takenValues()
	if r.Intn(30) == 0 {
		some = append(some, otherValues()...)
	}
	pick := func() api.Value { return some[r.Intn(len(some))] }
	d := doing{client: pick(), op: api.Push + r.Intn(2)}
	if r.Intn(30) == 0 {
		d.op = r.Intn(15)
	}
	many := api.Pop - d.op
	if r.Intn(30) == 0 {
		many = r.Intn(4)
	}
	for range many {
		d.args = append(d.args, pick())
	}
	return d
}

func TestLongRunsAtRandom(t *testing.T) {
	r := rand.New(rand.NewSource(42))
	for _, model := range models {
		refusals := 0
		for range 100 {
			s := first(t, model)
			var past []doing
			for range 60 {
				d := drawn(r)
				tries(t, s, past, d)
				if !mayBe(d) {
					refusals++
					continue
				}
				s, _, _ = Step(s, d.client, d.op, d.args...)
				past = append(past, d)
			}
		}
		if refusals < 150 {
			t.Errorf("model %d: only %d steps were refused", model, refusals)
		}
	}
}

// P15.2: the same steps come to the same, whatever was done between them.
func TestTheSameStepsComeToTheSame(t *testing.T) {
	r := rand.New(rand.NewSource(29))
	for i := range 200 {
		model := models[i%2]
		here, there := first(t, model), first(t, model)
		for range 30 {
			d := drawn(r)
			next, out, ok := Step(here, d.client, d.op, d.args...)
			for range 3 {
				x := drawn(r)
				s, _ := New(models[r.Intn(2)])
				Step(s, x.client, x.op, x.args...)
				Step(here, x.client, x.op, x.args...)
			}
			again, out2, ok2 := Step(there, d.client, d.op, d.args...)
			if ok != ok2 || !slices.Equal(out, out2) || !isState(again, next.Model, next.L) {
				t.Fatalf("%v came once to %v, %v, %v and once to %v, %v, %v", d, next, out, ok, again, out2, ok2)
			}
			if ok {
				here, there = next, again
			}
		}
	}
}

// Who does a step makes no difference.
func TestAnyClientComesToTheSame(t *testing.T) {
	eachPast(t, func(name string, s api.State, past []doing) {
		for _, d := range eachStep(isInt(7), isWord("a"), isInt(1)) {
			want, wantOut, _ := Step(s, d.client, d.op, d.args...)
			for _, client := range takenValues() {
				next, out, ok := Step(s, client, d.op, d.args...)
				if !ok || !isState(next, want.Model, want.L) || !slices.Equal(out, wantOut) {
					t.Fatalf("%s: %v of %v: %v, %v, %v", name, d, client, next, out, ok)
				}
			}
		}
	})
}

// Rules.

// R3: where nothing waits, the list is nil or empty, which is one.
func TestNilAndEmpty(t *testing.T) {
	for _, model := range models {
		for _, l := range [][]api.Value{nil, {}, ints(7, 8)[:0]} {
			s := first(t, model)
			s.L = l
			for _, d := range eachStep(isInt(9), isWord("a")) {
				steps(t, s, nil, d)
			}
			steps(t, s, nil, doing{al, api.Pop, list()})
			refused(t, s, doing{al, api.Push, nil})
			refused(t, s, doing{al, api.Push, list()})
		}
	}
}

// withRoom is l with room for two values behind it, that are told too.
func withRoom(l []api.Value) (short, full []api.Value) {
	full = append(append(make([]api.Value, 0, len(l)+2), l...), isWord("spare"), isWord("room"))
	return full[:len(l)], full
}

// R4: what is handed in stays, spare room included, the state and its list among it.
func TestWhatIsHandedInStays(t *testing.T) {
	eachPast(t, func(name string, was api.State, past []doing) {
		for _, op := range allOps {
			for _, v := range append(takenValues(), nothing, yes) {
				for many := range 4 {
					args, allArgs := withRoom(slices.Repeat(list(v), many))
					wasArgs := slices.Clone(allArgs)
					l, allOfIt := withRoom(was.L)
					wasAll := slices.Clone(allOfIt)
					s := api.State{Model: was.Model, L: l}
					Step(s, al, op, args...)
					if !slices.Equal(allArgs, wasArgs) || !slices.Equal(allOfIt, wasAll) || !isState(s, was.Model, was.L) {
						t.Fatalf("%s: Step(%d, %v) changed what was handed in: %v, %v, %v", name, op, args, allArgs, allOfIt, s)
					}
				}
			}
		}
	})
}

// Two steps from one elder state disturb neither each other nor that state.
func TestTwoStepsFromOneState(t *testing.T) {
	for _, model := range models {
		s := first(t, model)
		for many := range 20 {
			was := slices.Clone(s.L)
			left, _, _ := Step(s, al, api.Push, isWord("left"))
			right, _, _ := Step(s, al, api.Push, isWord("right"))
			popped, out, _ := Step(s, al, api.Pop)
			behind, _, _ := Step(popped, al, api.Push, isWord("behind"))
			beside, _, _ := Step(popped, al, api.Push, isWord("beside"))
			rest := was
			if model == api.Fifo && many > 0 {
				rest = was[1:]
			} else if many > 0 {
				rest = was[:many-1]
			}
			if !slices.Equal(out, comes(model, was, popping())) || !isState(s, model, was) || !isState(popped, model, rest) {
				t.Fatalf("model %d: pop of %v: %v, %v; that state is now %v", model, was, popped, out, s)
			}
			for word, next := range map[string]api.State{"left": left, "right": right} {
				if !isState(next, model, append(slices.Clone(was), isWord(word))) {
					t.Fatalf("model %d: push of %s to %v: %v", model, word, was, next)
				}
			}
			for word, next := range map[string]api.State{"behind": behind, "beside": beside} {
				if !isState(next, model, append(slices.Clone(rest), isWord(word))) {
					t.Fatalf("model %d: push of %s to %v: %v", model, word, rest, next)
				}
			}
			s, _, _ = Step(s, al, api.Push, isInt(int64(many)))
		}
	}
}

// An elder state goes on as it was, whatever is done with those behind it.
func TestElderStatesStay(t *testing.T) {
	r := rand.New(rand.NewSource(8))
	values := takenValues()[7:12]
	for i := range 60 {
		model := models[i%2]
		var past []doing
		all := []api.State{first(t, model)}
		for range 16 {
			d := popping()
			if r.Intn(3) > 0 {
				d = pushing(values[r.Intn(len(values))])
			}
			all = append(all, steps(t, all[len(all)-1], past, d))
			past = append(past, d)
		}
		for _, i := range r.Perm(len(all)) {
			for _, d := range eachStep(values...) {
				steps(t, all[i], past[:i], d)
			}
		}
		for i, s := range all {
			if !isState(s, model, content(model, past[:i])) {
				t.Fatalf("behind %v: %v", past[:i], s)
			}
		}
	}
}

// Steps that go out from one state don't meet in what they answer.
func TestBranchesStayApart(t *testing.T) {
	eachPast(t, func(name string, s api.State, past []doing) {
		var branches []api.State
		all := eachStep(append(takenValues(), isInt(7))...)
		for _, d := range all {
			branches = append(branches, steps(t, s, past, d))
		}
		for i, d := range all {
			if !isState(branches[i], s.Model, content(s.Model, append(slices.Clone(past), d))) {
				t.Fatalf("%s: behind %v: %v", name, d, branches[i])
			}
		}
	})
}

func spoil(l []api.Value) {
	l = l[:cap(l)]
	for i := range l {
		l[i] = isWord("spoiled")
	}
}

// R4: what is answered is new, spare room included.
func TestWhatIsAnsweredIsNew(t *testing.T) {
	eachPast(t, func(name string, s api.State, past []doing) {
		was := slices.Clone(s.L)
		for _, d := range eachStep(append(takenValues(), isInt(7))...) {
			args, allArgs := withRoom(d.args)
			wasArgs := slices.Clone(allArgs)
			next, out, _ := Step(s, al, d.op, args...)
			wantOut := slices.Clone(out)
			elder, elderOut, _ := Step(s, al, d.op, args...)
			wantL := slices.Clone(elder.L)
			spoil(out)
			spoil(next.L)
			if !slices.Equal(allArgs, wasArgs) || !slices.Equal(elderOut, wantOut) || !isState(elder, s.Model, wantL) || !isState(s, s.Model, was) {
				t.Fatalf("%s: what %v answers is shared", name, d)
			}
			spoil(args)
			if !slices.Equal(elderOut, wantOut) || !isState(elder, s.Model, wantL) || !isState(s, s.Model, was) {
				t.Fatalf("%s: what was handed in to %v is kept", name, d)
			}
			steps(t, s, past, d)
			steps(t, elder, append(slices.Clone(past), d), d)
		}
		spoil(s.L)
	})
	for _, model := range models {
		zero := first(t, model)
		spoil(zero.L)
		first(t, model)
	}
}

// FuzzQueue does steps out of bytes: the first tells the model, two more each a step.
func FuzzQueue(f *testing.F) {
	f.Add([]byte{0, 0, 3, 0, 4, 1, 0, 0, 5, 1, 0, 1, 0, 1, 0})
	f.Add([]byte{1, 0, 3, 0, 4, 1, 0, 0, 5, 1, 0, 1, 0, 1, 0})
	f.Add([]byte{1, 4, 0xf1, 8, 0xc2, 3, 1, 12, 0xff})
	f.Fuzz(func(t *testing.T, told []byte) {
		if len(told) == 0 {
			return
		}
		values := append(takenValues()[2:14], nothing, yes, isWord("A"), api.Value{Kind: api.Int, S: "1"})
		s := first(t, models[told[0]&1])
		var past []doing
		for told = told[1:]; len(told) > 1 && len(past) < 100; told = told[2:] {
			a, b := values[told[1]&15], values[told[1]>>4]
			d := pushing(a)
			if told[0]&1 != 0 {
				d = popping()
			}
			if told[0]&4 != 0 {
				d.client = b
			}
			if told[0]&8 != 0 {
				d.args = list(a, b)[:told[1]%3]
			}
			if told[0]&16 != 0 {
				d.op = int(told[0] >> 4)
			}
			tries(t, s, past, d)
			if mayBe(d) {
				s, _, _ = Step(s, d.client, d.op, d.args...)
				past = append(past, d)
			}
		}
	})
}
