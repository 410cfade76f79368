package reg

import (
	"fmt"
	"math"
	"math/rand"
	"regexp"
	"slices"
	"strings"
	"testing"

	"incognito/api"
	"incognito/sign"
)

// What the chapter says, looked up in all steps that were done, without a state.

var models = []int{api.Register, api.Cas, api.Max}

// handed tells of each thing that may be done how many values are handed in.
var handed = map[[2]int]int{
	{api.Register, api.Write}: 1, {api.Register, api.Read}: 0,
	{api.Cas, api.Write}: 1, {api.Cas, api.Read}: 0, {api.Cas, api.Swap}: 2,
	{api.Max, api.Write}: 1, {api.Max, api.Read}: 0,
}

var allOps = []int{
	api.Write, api.Read, api.Swap, api.Add, api.Del, api.Has, api.Put,
	api.Get, api.Push, api.Pop, api.Take, api.Free, api.Scan,
}

// Numbers that are no model's, and nothing's that is done.
var farNumbers = []int{math.MinInt, math.MinInt + 1, -1 << 32, -256, -15, -9, -3, -2, -1, 0, 14, 15, 16, 64, 255, 256, 257, 258, 265, 1 << 16, 1 << 32, 1<<32 + 1, 1<<32 + 9, math.MaxInt - 1, math.MaxInt}

func isInt(n int64) api.Value   { return api.Value{Kind: api.Int, N: n} }
func isWord(s string) api.Value { return api.Value{Kind: api.Word, S: s} }
func isBool(n int64) api.Value  { return api.Value{Kind: api.Bool, N: n} }

func list(values ...api.Value) []api.Value { return values }

var (
	nothing = api.Value{}
	al      = isWord("al")
	yes     = isBool(1)
	no      = isBool(0)
)

// takenValues are values that may be handed in, in layer 7's order.
func takenValues() []api.Value {
	return []api.Value{
		isInt(math.MinInt64), isInt(-10), isInt(-9), isInt(-1), isInt(0), isInt(1), isInt(2), isInt(9), isInt(10), isInt(math.MaxInt64),
		isWord("a"), isWord("a0"), isWord("a_"), isWord("aa"), isWord("ab"), isWord("b"), isWord("t"), isWord("z"), isWord("z9_"), isWord(strings.Repeat("z", 40)),
	}
}

// otherValues are those that may not: nothing, yes and no, and all that isn't right.
func otherValues() []api.Value {
	return []api.Value{
		nothing, yes, no,
		{N: 1}, {S: "a"}, {N: 7, S: "al"},
		{Kind: api.Int, S: "a"}, {Kind: api.Int, N: 7, S: "7"},
		{Kind: api.Word}, {Kind: api.Word, N: 1, S: "a"}, {Kind: api.Word, S: "A"}, {Kind: api.Word, S: "7"}, {Kind: api.Word, S: "~"}, {Kind: api.Word, S: "a b"}, {Kind: api.Word, S: strings.Repeat("a", 41)},
		{Kind: api.Bool, N: 2}, {Kind: api.Bool, N: -1}, {Kind: api.Bool, S: "a"},
		{Kind: 4}, {Kind: -1, N: 1}, {Kind: 257, N: 7}, {Kind: math.MinInt}, {Kind: math.MaxInt},
	}
}

var wordForm = regexp.MustCompile(`\A[a-z][a-z0-9_]{0,39}\z`)

// taken tells whether v is a number or a word.
func taken(v api.Value) bool {
	return v == isInt(v.N) || v == isWord(v.S) && wordForm.MatchString(v.S)
}

// behind tells whether a is behind b in layer 7's order: of two numbers and words.
func behind(a, b api.Value) bool {
	switch {
	case a.Kind != b.Kind:
		return a.Kind == api.Word
	case a.Kind == api.Word:
		return a.S > b.S
	}
	return a.N > b.N
}

// doing is one step.
type doing struct {
	client api.Value
	op     int
	args   []api.Value
}

func write(v api.Value) doing   { return doing{al, api.Write, list(v)} }
func read() doing               { return doing{al, api.Read, nil} }
func swap(a, b api.Value) doing { return doing{al, api.Swap, list(a, b)} }

// mayBe tells whether a step of a state of the model may be.
func mayBe(model int, d doing) bool {
	wants, ok := handed[[2]int{model, d.op}]
	if !ok || len(d.args) != wants {
		return false
	}
	for _, v := range d.args {
		if !taken(v) {
			return false
		}
	}
	return taken(d.client)
}

// kept is what is kept behind all of these steps, each of which may be.
func kept(model int, past []doing) api.Value {
	if model == api.Max {
		return greatest(past)
	}
	for len(past) > 0 {
		last := past[len(past)-1]
		past = past[:len(past)-1]
		switch {
		case last.op == api.Write:
			return last.args[0]
		case last.op == api.Swap && kept(model, past) == last.args[0]:
			return last.args[1]
		}
	}
	return nothing
}

// greatest is the one of all that was written that is behind each other.
func greatest(past []doing) api.Value {
	top, any := nothing, false
	for _, d := range past {
		if d.op == api.Write && (!any || behind(d.args[0], top)) {
			top, any = d.args[0], true
		}
	}
	return top
}

// comes is what comes out of a step behind these.
func comes(model int, past []doing, d doing) []api.Value {
	one := kept(model, past)
	switch {
	case d.op == api.Read:
		return list(one)
	case d.op == api.Swap && one == d.args[0]:
		return list(yes)
	case d.op == api.Swap:
		return list(no)
	}
	return nil
}

// isState tells whether s is the model's state that keeps one, and zero else.
func isState(s api.State, model int, one api.Value) bool {
	return s.Model == model && s.One == one && s.N == 0 && len(s.L) == 0 && cap(s.L) == 0
}

func first(t *testing.T, model int) api.State {
	t.Helper()
	s, ok := New(model)
	if !ok || !isState(s, model, nothing) {
		t.Fatalf("New(%d) = %#v, %v", model, s, ok)
	}
	return s
}

// steps does a step that may be, behind past, and wants the chapter's answer.
func steps(t *testing.T, s api.State, past []doing, d doing) api.State {
	t.Helper()
	next, out, ok := Step(s, d.client, d.op, d.args...)
	one := kept(s.Model, append(slices.Clone(past), d))
	want := comes(s.Model, past, d)
	if !ok || !isState(next, s.Model, one) || !slices.Equal(out, want) {
		t.Fatalf("model %d, behind %v: Step(%v) = %#v, %v, %v, want %v to be kept and %v", s.Model, past, d, next, out, ok, one, want)
	}
	if _, ok := sign.Outs(s.Model, d.op, out...); !ok {
		t.Fatalf("model %d, behind %v: %v came out of %v, which may not", s.Model, past, out, d)
	}
	return next
}

// refused wants the step not to be.
func refused(t *testing.T, s api.State, d doing) {
	t.Helper()
	next, out, ok := Step(s, d.client, d.op, d.args...)
	if ok || len(out) != 0 || !isState(next, 0, nothing) {
		t.Fatalf("Step(%v, %v) = %#v, %v, %v", s, d, next, out, ok)
	}
}

// tries does the step if it may be, and else wants it refused.
func tries(t *testing.T, s api.State, past []doing, d doing) {
	t.Helper()
	if mayBe(s.Model, d) {
		steps(t, s, past, d)
		return
	}
	refused(t, s, d)
}

// runs does all steps from the first state on, and answers the last one's state.
func runs(t *testing.T, model int, all ...doing) api.State {
	t.Helper()
	s := first(t, model)
	for i, d := range all {
		s = steps(t, s, all[:i], d)
	}
	return s
}

// P13.1: New.

func TestNew(t *testing.T) {
	for _, model := range models {
		first(t, model)
	}
}

func TestNewOfEveryOtherModel(t *testing.T) {
	others := []int{api.Set, api.Map, api.Fifo, api.Stack, api.Lock, api.Counter, api.Ordered, 11, 12, 13}
	for _, model := range append(others, farNumbers...) {
		if s, ok := New(model); ok || !isState(s, 0, nothing) {
			t.Errorf("New(%d) = %#v, %v", model, s, ok)
		}
	}
	many := 0
	for model := -300; model <= 300; model++ {
		if _, ok := New(model); ok {
			many++
		}
	}
	if many != len(models) {
		t.Errorf("%d models are there", many)
	}
}

// P13.1: which steps may be.

// states are some of each model: at first, and with something kept.
func states(t *testing.T) map[string]api.State {
	t.Helper()
	m := map[string]api.State{}
	for _, model := range models {
		m[fmt.Sprint(model, " at first")] = first(t, model)
		m[fmt.Sprint(model, " with 7")] = runs(t, model, write(isInt(7)))
		m[fmt.Sprint(model, " with a")] = runs(t, model, write(isWord("a")))
	}
	return m
}

// pastOf is what a state has been through, as far as it matters.
func pastOf(s api.State) []doing {
	if s.One == nothing {
		return nil
	}
	return []doing{write(s.One)}
}

// Each thing that is done, and numbers around, with 0 to 4 values.
func TestStepOfEachThing(t *testing.T) {
	for name, s := range states(t) {
		done := 0
		for _, op := range append(slices.Clone(allOps), farNumbers...) {
			for many := range 5 {
				d := doing{al, op, slices.Repeat(list(isInt(7)), many)}
				tries(t, s, pastOf(s), d)
				if _, _, ok := Step(s, d.client, d.op, d.args...); ok {
					done++
				}
			}
		}
		if want := map[int]int{api.Register: 2, api.Cas: 3, api.Max: 2}[s.Model]; done != want {
			t.Errorf("%s: %d things can be done, not %d", name, done, want)
		}
	}
}

// As many values as it wants, one fewer and one more, told one by one.
func TestHowManyValues(t *testing.T) {
	v := isInt(7)
	for _, s := range states(t) {
		steps(t, s, pastOf(s), doing{al, api.Write, list(v)})
		refused(t, s, doing{al, api.Write, nil})
		refused(t, s, doing{al, api.Write, list(v, v)})
		steps(t, s, pastOf(s), doing{al, api.Read, nil})
		refused(t, s, doing{al, api.Read, list(v)})
		refused(t, s, doing{al, api.Read, list(nothing)})
		refused(t, s, doing{al, api.Swap, list(v)})
		refused(t, s, doing{al, api.Swap, list(v, v, v)})
		refused(t, s, doing{al, api.Swap, nil})
		if s.Model == api.Cas {
			steps(t, s, pastOf(s), doing{al, api.Swap, list(v, v)})
		} else {
			refused(t, s, doing{al, api.Swap, list(v, v)})
		}
	}
}

// Values of each kind, right and not right, in each place.
func TestValuesOfEachKind(t *testing.T) {
	all := append(takenValues(), otherValues()...)
	for _, s := range states(t) {
		for _, v := range all {
			tries(t, s, pastOf(s), doing{al, api.Write, list(v)})
			tries(t, s, pastOf(s), doing{al, api.Read, list(v)})
			for _, w := range all {
				tries(t, s, pastOf(s), doing{al, api.Swap, list(v, w)})
			}
		}
		for _, v := range otherValues() {
			refused(t, s, write(v))
			refused(t, s, swap(v, isInt(7)))
			refused(t, s, swap(isInt(7), v))
			refused(t, s, swap(v, v))
		}
	}
}

// A Cas that keeps nothing isn't asked for nothing.
func TestSwapOfNothing(t *testing.T) {
	s := first(t, api.Cas)
	refused(t, s, swap(nothing, isInt(1)))
	refused(t, s, swap(nothing, nothing))
	refused(t, runs(t, api.Cas, write(isInt(1))), swap(isInt(1), nothing))
}

func TestClients(t *testing.T) {
	for _, s := range states(t) {
		for _, client := range takenValues() {
			steps(t, s, pastOf(s), doing{client, api.Read, nil})
			steps(t, s, pastOf(s), doing{client, api.Write, list(isInt(7))})
			if s.Model == api.Cas {
				steps(t, s, pastOf(s), doing{client, api.Swap, list(isInt(7), isInt(8))})
			}
		}
		for _, client := range otherValues() {
			refused(t, s, doing{client, api.Read, nil})
			refused(t, s, doing{client, api.Write, list(isInt(7))})
			refused(t, s, doing{client, api.Swap, list(isInt(7), isInt(8))})
		}
	}
}

// A state of no model of this layer does nothing.
func TestStatesOfOtherModels(t *testing.T) {
	none, _ := New(api.Set)
	for _, op := range append(slices.Clone(allOps), farNumbers...) {
		for many := range 3 {
			args := slices.Repeat(list(isInt(7)), many)
			refused(t, none, doing{al, op, args})
			for _, model := range []int{api.Set, api.Map, api.Fifo, api.Stack, api.Lock, api.Counter, api.Ordered, 11, -1} {
				refused(t, api.State{Model: model}, doing{al, op, args})
			}
		}
	}
}

// P13.1: what each step comes to, told by hand.

// play is a step, what comes out, and what is kept behind it.
type play struct {
	do  doing
	out []api.Value
	one api.Value
}

func plays(t *testing.T, model int, all ...play) {
	t.Helper()
	s := first(t, model)
	for i, p := range all {
		next, out, ok := Step(s, p.do.client, p.do.op, p.do.args...)
		if !ok || !slices.Equal(out, p.out) || !isState(next, model, p.one) {
			t.Fatalf("model %d, step %d, %v: %#v, %v, %v, want %v, %v", model, i, p.do, next, out, ok, p.one, p.out)
		}
		s = next
	}
}

func TestWriteAndReadOfRegisterAndCas(t *testing.T) {
	one, nine, a, b := isInt(1), isInt(9), isWord("a"), isWord("b")
	for _, model := range []int{api.Register, api.Cas} {
		plays(t, model, play{read(), list(nothing), nothing}, play{read(), list(nothing), nothing})
		plays(t, model, play{write(one), nil, one}, play{read(), list(one), one}, play{read(), list(one), one})
		plays(t, model,
			play{write(nine), nil, nine}, play{read(), list(nine), nine},
			play{write(one), nil, one}, play{read(), list(one), one},
			play{write(one), nil, one}, play{read(), list(one), one},
			play{write(b), nil, b}, play{read(), list(b), b},
			play{write(a), nil, a}, play{write(a), nil, a}, play{read(), list(a), a},
			play{write(isInt(-9)), nil, isInt(-9)}, play{read(), list(isInt(-9)), isInt(-9)},
			play{write(isInt(0)), nil, isInt(0)}, play{read(), list(isInt(0)), isInt(0)},
		)
	}
}

func TestWriteAndReadOfMax(t *testing.T) {
	a, b := isWord("a"), isWord("b")
	plays(t, api.Max, play{read(), list(nothing), nothing}, play{read(), list(nothing), nothing})
	plays(t, api.Max,
		play{write(isInt(-9)), nil, isInt(-9)}, play{read(), list(isInt(-9)), isInt(-9)},
		play{write(isInt(-10)), nil, isInt(-9)}, play{read(), list(isInt(-9)), isInt(-9)},
		play{write(isInt(-9)), nil, isInt(-9)}, play{read(), list(isInt(-9)), isInt(-9)},
		play{write(isInt(-1)), nil, isInt(-1)}, play{read(), list(isInt(-1)), isInt(-1)},
		play{write(isInt(0)), nil, isInt(0)}, play{write(isInt(-1)), nil, isInt(0)}, play{read(), list(isInt(0)), isInt(0)},
		play{write(isInt(10)), nil, isInt(10)}, play{write(isInt(9)), nil, isInt(10)}, play{read(), list(isInt(10)), isInt(10)},
		play{write(a), nil, a}, play{read(), list(a), a},
		play{write(isInt(math.MaxInt64)), nil, a}, play{read(), list(a), a},
		play{write(b), nil, b}, play{write(isWord("ab")), nil, b}, play{write(a), nil, b}, play{write(b), nil, b}, play{read(), list(b), b},
		play{write(isWord("ba")), nil, isWord("ba")}, play{write(b), nil, isWord("ba")}, play{read(), list(isWord("ba")), isWord("ba")},
	)
	for _, v := range []api.Value{isInt(math.MinInt64), isInt(-1), isInt(0), isInt(1), isInt(math.MaxInt64), a} {
		plays(t, api.Max, play{write(v), nil, v}, play{read(), list(v), v})
	}
}

// Each two values, in either order, and each one behind them all.
func TestMaxOfEachTwo(t *testing.T) {
	values := takenValues()
	for i, v := range values {
		for j, w := range values {
			top := values[max(i, j)]
			plays(t, api.Max, play{write(v), nil, v}, play{write(w), nil, top}, play{read(), list(top), top})
		}
	}
}

func TestSwapOfCas(t *testing.T) {
	one, two, a, b := isInt(1), isInt(2), isWord("a"), isWord("b")
	plays(t, api.Cas, play{swap(one, two), list(no), nothing}, play{read(), list(nothing), nothing})
	plays(t, api.Cas, play{swap(isInt(0), two), list(no), nothing}, play{swap(one, one), list(no), nothing}, play{swap(a, a), list(no), nothing})
	plays(t, api.Cas,
		play{write(one), nil, one},
		play{swap(one, two), list(yes), two}, play{read(), list(two), two},
		play{swap(one, isInt(3)), list(no), two}, play{read(), list(two), two},
		play{swap(two, two), list(yes), two}, play{read(), list(two), two},
		play{swap(one, one), list(no), two}, play{swap(one, two), list(no), two},
		play{swap(isInt(-2), one), list(no), two}, play{swap(a, one), list(no), two},
		play{swap(two, a), list(yes), a}, play{read(), list(a), a},
		play{swap(b, two), list(no), a}, play{swap(two, one), list(no), a}, play{swap(isInt(0), one), list(no), a},
		play{swap(isWord("aa"), two), list(no), a}, play{swap(a, a), list(yes), a},
		play{swap(a, isInt(0)), list(yes), isInt(0)}, play{swap(a, one), list(no), isInt(0)}, play{swap(isInt(0), one), list(yes), one},
		play{write(two), nil, two}, play{swap(one, a), list(no), two}, play{read(), list(two), two},
	)
}

// Every kept value with every two that may be handed in.
func TestSwapOfEachTwo(t *testing.T) {
	values := takenValues()
	for _, v := range values {
		s := runs(t, api.Cas, write(v))
		for _, a := range values {
			for _, b := range values {
				steps(t, s, []doing{write(v)}, swap(a, b))
			}
		}
	}
}

func TestExamples(t *testing.T) {
	plays(t, api.Max, play{write(isInt(5)), nil, isInt(5)}, play{write(isInt(3)), nil, isInt(5)}, play{read(), list(isInt(5)), isInt(5)})
	plays(t, api.Cas, play{swap(isInt(1), isInt(2)), list(no), nothing})
}

// P13.1, P13.2: every short run of steps, and longer ones at random.

// eachStep are the steps that may be of states of the model, with these values.
func eachStep(model int, values []api.Value) []doing {
	all := []doing{read()}
	for _, v := range values {
		all = append(all, write(v))
		if model != api.Cas {
			continue
		}
		for _, w := range values {
			all = append(all, swap(v, w))
		}
	}
	return all
}

func TestEveryShortRun(t *testing.T) {
	values := []api.Value{isInt(-1), isInt(1), isWord("a")}
	for _, model := range models {
		all := eachStep(model, values)
		var past []doing
		var goOn func(s api.State)
		goOn = func(s api.State) {
			if len(past) == 4 {
				return
			}
			for _, d := range all {
				next := steps(t, s, past, d)
				past = append(past, d)
				goOn(next)
				past = past[:len(past)-1]
			}
		}
		goOn(first(t, model))
	}
}

// drawn is a step of some client, that mostly may be.
func drawn(r *rand.Rand, model int) doing {
	some := takenValues()
	if r.Intn(2) == 0 {
		some = some[3:7]
	}
	if r.Intn(30) == 0 {
		some = append(some, otherValues()...)
	}
	pick := func() api.Value { return some[r.Intn(len(some))] }
	op := []int{api.Write, api.Read, api.Swap}[r.Intn(3)]
	if r.Intn(30) == 0 {
		op = r.Intn(15)
	}
	many := handed[[2]int{model, op}]
	if r.Intn(30) == 0 {
		many = r.Intn(4)
	}
	d := doing{client: pick(), op: op}
	for range many {
		d.args = append(d.args, pick())
	}
	return d
}

func TestLongRunsAtRandom(t *testing.T) {
	r := rand.New(rand.NewSource(13))
	refusals := 0
	for range 300 {
		model := models[r.Intn(3)]
		s := first(t, model)
		var past []doing
		for range 60 {
			d := drawn(r, model)
			tries(t, s, past, d)
			if !mayBe(model, d) {
				refusals++
				continue
			}
			s, _, _ = Step(s, d.client, d.op, d.args...)
			past = append(past, d)
		}
	}
	if refusals < 300 {
		t.Errorf("only %d steps were refused", refusals)
	}
}

// P13.2: the same steps come to the same, whatever was done between them.
func TestTheSameStepsComeToTheSame(t *testing.T) {
	r := rand.New(rand.NewSource(26))
	for range 200 {
		model := models[r.Intn(3)]
		here, there := first(t, model), first(t, model)
		for range 30 {
			d := drawn(r, model)
			next, out, ok := Step(here, d.client, d.op, d.args...)
			for range 3 {
				other := models[r.Intn(3)]
				x := drawn(r, other)
				s, _ := New(other)
				Step(s, x.client, x.op, x.args...)
				Step(here, x.client, x.op, x.args...)
			}
			again, out2, ok2 := Step(there, d.client, d.op, d.args...)
			if ok != ok2 || !slices.Equal(out, out2) || !isState(again, next.Model, next.One) {
				t.Fatalf("%v came once to %v, %v, %v and once to %v, %v, %v", d, next, out, ok, again, out2, ok2)
			}
			if ok {
				here, there = next, again
			}
		}
	}
}

// Who does a step makes no difference.
func TestAnyClientComesToTheSame(t *testing.T) {
	for _, s := range states(t) {
		for _, d := range eachStep(s.Model, []api.Value{isInt(7), isWord("a"), isInt(1)}) {
			want, wantOut, _ := Step(s, d.client, d.op, d.args...)
			for _, client := range takenValues() {
				next, out, ok := Step(s, client, d.op, d.args...)
				if !ok || !isState(next, want.Model, want.One) || !slices.Equal(out, wantOut) {
					t.Fatalf("%v of %v: %v, %v, %v", d, client, next, out, ok)
				}
			}
		}
	}
}

// Rules.

// R3: no values are one, nil or empty.
func TestNilAndEmpty(t *testing.T) {
	for _, s := range states(t) {
		_, out, ok := Step(s, al, api.Read, []api.Value{}...)
		_, out2, ok2 := Step(s, al, api.Read)
		if !ok || !ok2 || !slices.Equal(out, out2) {
			t.Errorf("read of %v: %v, %v and %v, %v", s, out, ok, out2, ok2)
		}
		refused(t, s, doing{al, api.Write, []api.Value{}})
		refused(t, s, doing{al, api.Swap, []api.Value{}})
	}
}

// R4: what is handed in stays, spare room included, the state among it.
func TestWhatIsHandedInStays(t *testing.T) {
	for _, s := range states(t) {
		was := s
		for _, op := range []int{api.Write, api.Read, api.Swap, api.Add} {
			for many := range 4 {
				room := slices.Repeat(list(isInt(7)), many)
				room = append(room, isWord("spare"), isWord("room"))
				full := slices.Clone(room)
				Step(s, al, op, room[:many]...)
				if !slices.Equal(room, full) {
					t.Fatalf("Step changed what was handed in: %v, %v", room, full)
				}
				if !isState(s, was.Model, was.One) {
					t.Fatalf("Step changed the state: %v, %v", s, was)
				}
			}
		}
	}
}

// An elder state goes on as it was, whatever is done with those behind it.
func TestElderStatesStay(t *testing.T) {
	for _, model := range models {
		past := []doing{write(isInt(1)), write(isInt(2)), read(), write(isWord("a"))}
		var all []api.State
		s := first(t, model)
		for i, d := range past {
			all = append(all, s)
			s = steps(t, s, past[:i], d)
		}
		for i, s := range all {
			for _, d := range eachStep(model, []api.Value{isInt(1), isInt(2), isWord("a")}) {
				steps(t, s, past[:i], d)
			}
		}
	}
}

// R4: what comes out is new, spare room included.
func TestWhatComesOutIsNew(t *testing.T) {
	spoil := func(l []api.Value) {
		l = l[:cap(l)]
		for i := range l {
			l[i] = isWord("spoiled")
		}
	}
	for _, s := range states(t) {
		for _, d := range eachStep(s.Model, []api.Value{isInt(7), isWord("a")}) {
			room := append(slices.Clone(d.args), isInt(1), isInt(2))
			was := slices.Clone(room)
			next, out, _ := Step(s, al, d.op, room[:len(d.args)]...)
			kept, wantOut := next, slices.Clone(out)
			_, elder, _ := Step(s, al, d.op, room[:len(d.args)]...)
			spoil(out)
			if !slices.Equal(room, was) || !slices.Equal(elder, wantOut) || !isState(next, kept.Model, kept.One) {
				t.Fatalf("what came out of %v is shared", d)
			}
			spoil(room)
			if !slices.Equal(elder, wantOut) || !isState(next, kept.Model, kept.One) {
				t.Fatalf("what was handed in to %v is kept", d)
			}
			if _, again, _ := Step(s, al, d.op, d.args...); !slices.Equal(again, wantOut) {
				t.Fatalf("%v came to %v, then to %v", d, wantOut, again)
			}
		}
	}
}

// FuzzReg does steps out of bytes: two bytes tell a step.
func FuzzReg(f *testing.F) {
	f.Add(byte(0), []byte{0, 3, 1, 0})
	f.Add(byte(1), []byte{2, 0x34, 0, 3, 2, 0x34, 1, 0})
	f.Add(byte(2), []byte{0, 5, 0, 3, 1, 0, 0, 0xff})
	f.Fuzz(func(t *testing.T, which byte, told []byte) {
		values := append(takenValues()[2:14], nothing, yes, isWord("A"), api.Value{Kind: api.Int, S: "1"})
		s := first(t, models[int(which)%3])
		var past []doing
		for ; len(told) > 1 && len(past) < 100; told = told[2:] {
			a, b := values[told[1]>>4], values[told[1]&15]
			d := doing{client: al, op: api.Write + int(told[0]&3), args: list(a, b)}
			if told[0]&4 != 0 {
				d.client = b
			}
			if many := handed[[2]int{s.Model, d.op}]; told[0]&8 == 0 {
				d.args = d.args[:many]
			}
			tries(t, s, past, d)
			if mayBe(s.Model, d) {
				s, _, _ = Step(s, d.client, d.op, d.args...)
				past = append(past, d)
			}
		}
	})
}
