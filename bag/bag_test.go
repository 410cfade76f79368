package bag

import (
	"cmp"
	"math"
	"math/rand"
	"regexp"
	"slices"
	"strings"
	"testing"

	"incognito/api"
	"incognito/sign"
)

// What the chapter says, looked up in all steps that were done, without a state.

var setOps = []int{api.Add, api.Del, api.Has}

var allOps = []int{
	api.Write, api.Read, api.Swap, api.Add, api.Del, api.Has, api.Put,
	api.Get, api.Push, api.Pop, api.Take, api.Free, api.Scan,
}

// Numbers that are no model's, and nothing's that is done.
var farNumbers = []int{math.MinInt, math.MinInt + 1, -1 << 32, -256, -15, -9, -6, -3, -2, -1, 0, 14, 15, 16, 64, 255, 256, 257, 259, 260, 262, 1 << 16, 1 << 32, 1<<32 + 3, 1<<32 + 4, math.MaxInt - 1, math.MaxInt}

func isInt(n int64) api.Value   { return api.Value{Kind: api.Int, N: n} }
func isWord(s string) api.Value { return api.Value{Kind: api.Word, S: s} }
func isBool(n int64) api.Value  { return api.Value{Kind: api.Bool, N: n} }

func list(values ...api.Value) []api.Value { return values }

func ints(numbers ...int64) []api.Value {
	var l []api.Value
	for _, n := range numbers {
		l = append(l, isInt(n))
	}
	return l
}

var (
	nothing = api.Value{}
	al      = isWord("al")
	yes     = isBool(1)
	no      = isBool(0)
)

// takenValues are values that may be handed in, in layer 7's order.
func takenValues() []api.Value {
	return []api.Value{
		isInt(math.MinInt64), isInt(-10), isInt(-9), isInt(-1), isInt(0), isInt(1), isInt(2), isInt(9), isInt(10), isInt(math.MaxInt64),
		isWord("a"), isWord("a0"), isWord("a_"), isWord("aa"), isWord("ab"), isWord("b"), isWord("t"), isWord("z"), isWord("z9_"), isWord(strings.Repeat("z", 40)),
	}
}

// otherValues are those that may not: nothing, yes and no, and all that isn't right.
func otherValues() []api.Value {
	return []api.Value{
		nothing, yes, no,
		{N: 1}, {S: "a"}, {N: 7, S: "al"},
		{Kind: api.Int, S: "a"}, {Kind: api.Int, N: 7, S: "7"},
		{Kind: api.Word}, {Kind: api.Word, N: 1, S: "a"}, {Kind: api.Word, S: "A"}, {Kind: api.Word, S: "7"}, {Kind: api.Word, S: "~"}, {Kind: api.Word, S: "a b"}, {Kind: api.Word, S: strings.Repeat("a", 41)},
		{Kind: api.Bool, N: 2}, {Kind: api.Bool, N: -1}, {Kind: api.Bool, S: "a"},
		{Kind: 4}, {Kind: -1, N: 1}, {Kind: 257, N: 7}, {Kind: math.MinInt}, {Kind: math.MaxInt},
	}
}

var wordForm = regexp.MustCompile(`\A[a-z][a-z0-9_]{0,39}\z`)

// taken tells whether v is a number or a word.
func taken(v api.Value) bool {
	return v == isInt(v.N) || v == isWord(v.S) && wordForm.MatchString(v.S)
}

// ahead tells whether a is ahead of b in layer 7's order: of two numbers and words.
func ahead(a, b api.Value) bool {
	switch {
	case a.Kind != b.Kind:
		return a.Kind == api.Int
	case a.Kind == api.Word:
		return a.S < b.S
	}
	return a.N < b.N
}

// doing is one step.
type doing struct {
	client api.Value
	op     int
	args   []api.Value
}

func add(v api.Value) doing { return doing{al, api.Add, list(v)} }
func del(v api.Value) doing { return doing{al, api.Del, list(v)} }
func has(v api.Value) doing { return doing{al, api.Has, list(v)} }

// adds are steps that add these, one by one.
func adds(values ...api.Value) []doing {
	var all []doing
	for _, v := range values {
		all = append(all, add(v))
	}
	return all
}

// mayBe tells whether a step of a set may be.
func mayBe(d doing) bool {
	return slices.Contains(setOps, d.op) && len(d.args) == 1 && taken(d.args[0]) && taken(d.client)
}

// isIn tells whether v is in it behind all of these steps, each of which may be: if
// what was last done to it is that it was added.
func isIn(past []doing, v api.Value) bool {
	for _, d := range slices.Backward(past) {
		if d.op != api.Has && d.args[0] == v {
			return d.op == api.Add
		}
	}
	return false
}

// content is what is in it behind these steps: of all that is in it the one that is
// ahead of each other, then of those behind that one, and so on.
func content(past []doing) []api.Value {
	left := map[api.Value]int{}
	for _, d := range past {
		if isIn(past, d.args[0]) {
			left[d.args[0]] = 1
		}
	}
	var l []api.Value
	for len(left) > 0 {
		least, any := nothing, false
		for v := range left {
			if !any || ahead(v, least) {
				least, any = v, true
			}
		}
		l = append(l, least)
		delete(left, least)
	}
	return l
}

// comes is what comes out of a step behind these.
func comes(past []doing, d doing) []api.Value {
	switch {
	case d.op != api.Has:
		return nil
	case isIn(past, d.args[0]):
		return list(yes)
	}
	return list(no)
}

// isSet tells whether s is the state of a set of these values, and zero else.
func isSet(s api.State, values []api.Value) bool {
	return s.Model == api.Set && slices.Equal(s.L, values) && s.One == nothing && s.N == 0
}

// isZero tells whether s is the zero state.
func isZero(s api.State) bool {
	return s.Model == 0 && len(s.L) == 0 && cap(s.L) == 0 && s.One == nothing && s.N == 0
}

func first(t *testing.T) api.State {
	t.Helper()
	s, ok := New(api.Set)
	if !ok || !isSet(s, nil) {
		t.Fatalf("New(Set) = %#v, %v", s, ok)
	}
	return s
}

// steps does a step that may be, behind past, and wants the chapter's answer.
func steps(t *testing.T, s api.State, past []doing, d doing) api.State {
	t.Helper()
	next, out, ok := Step(s, d.client, d.op, d.args...)
	l := content(append(slices.Clone(past), d))
	want := comes(past, d)
	if !ok || !isSet(next, l) || !slices.Equal(out, want) {
		t.Fatalf("behind %v: Step(%v) = %#v, %v, %v, want %v to be in it and %v", past, d, next, out, ok, l, want)
	}
	if _, ok := sign.Outs(s.Model, d.op, out...); !ok {
		t.Fatalf("behind %v: %v came out of %v, which may not", past, out, d)
	}
	return next
}

// refused wants the step not to be.
func refused(t *testing.T, s api.State, d doing) {
	t.Helper()
	next, out, ok := Step(s, d.client, d.op, d.args...)
	if ok || len(out) != 0 || cap(out) != 0 || !isZero(next) {
		t.Fatalf("Step(%v, %v) = %#v, %v, %v", s, d, next, out, ok)
	}
}

// tries does the step if it may be, and else wants it refused.
func tries(t *testing.T, s api.State, past []doing, d doing) {
	t.Helper()
	if mayBe(d) {
		steps(t, s, past, d)
		return
	}
	refused(t, s, d)
}

// runs does all steps from the first state on, and answers the last one's state.
func runs(t *testing.T, all ...doing) api.State {
	t.Helper()
	s := first(t)
	for i, d := range all {
		s = steps(t, s, all[:i], d)
	}
	return s
}

// P14.1: New.

func TestNew(t *testing.T) {
	first(t)
}

func TestNewOfEveryOtherModel(t *testing.T) {
	others := []int{api.Register, api.Cas, api.Map, api.Fifo, api.Stack, api.Lock, api.Counter, api.Max, api.Ordered, 11, 12, 13}
	for _, model := range append(others, farNumbers...) {
		if s, ok := New(model); ok || !isZero(s) {
			t.Errorf("New(%d) = %#v, %v", model, s, ok)
		}
	}
	for model := -300; model <= 300; model++ {
		if _, ok := New(model); ok != (model == api.Set) {
			t.Errorf("New(%d) answers %v", model, ok)
		}
	}
}

// P14.1: which steps may be.

// pasts are some ways to come to a state: at first, with some values, and emptied.
func pasts() map[string][]doing {
	return map[string][]doing{
		"at first":     nil,
		"with 7":       adds(isInt(7)),
		"with a":       adds(isWord("a")),
		"with many":    adds(takenValues()...),
		"with 7 again": {add(isInt(7)), del(isInt(7)), add(isInt(7))},
		"emptied":      {add(isInt(7)), del(isInt(7))},
	}
}

// Each thing that is done, and numbers around, with 0 to 4 values.
func TestStepOfEachThing(t *testing.T) {
	for name, past := range pasts() {
		s := runs(t, past...)
		done := 0
		for _, op := range append(slices.Clone(allOps), farNumbers...) {
			for many := range 5 {
				d := doing{al, op, slices.Repeat(ints(7), many)}
				tries(t, s, past, d)
				if _, _, ok := Step(s, d.client, d.op, d.args...); ok {
					done++
				}
			}
		}
		if done != 3 {
			t.Errorf("%s: %d things can be done, not 3", name, done)
		}
	}
}

// As many values as it wants, one fewer and one more, told one by one.
func TestHowManyValues(t *testing.T) {
	v := isInt(7)
	for _, past := range pasts() {
		s := runs(t, past...)
		for _, op := range setOps {
			steps(t, s, past, doing{al, op, list(v)})
			refused(t, s, doing{al, op, nil})
			refused(t, s, doing{al, op, list()})
			refused(t, s, doing{al, op, list(v, v)})
			refused(t, s, doing{al, op, list(v, nothing)})
			refused(t, s, doing{al, op, list(v, isInt(8))})
			refused(t, s, doing{al, op, list(v, v, v)})
		}
		refused(t, s, doing{al, api.Read, nil})
		refused(t, s, doing{al, api.Pop, nil})
		refused(t, s, doing{al, api.Write, list(v)})
		refused(t, s, doing{al, api.Push, list(v)})
		refused(t, s, doing{al, api.Get, list(v)})
		refused(t, s, doing{al, api.Put, list(v, v)})
		refused(t, s, doing{al, api.Swap, list(v, v)})
		refused(t, s, doing{al, api.Scan, list(v, v)})
		refused(t, s, doing{al, api.Take, nil})
		refused(t, s, doing{al, api.Free, nil})
	}
}

// Values of each kind, right and not right.
func TestValuesOfEachKind(t *testing.T) {
	for _, past := range pasts() {
		s := runs(t, past...)
		for _, op := range allOps {
			for _, v := range append(takenValues(), otherValues()...) {
				tries(t, s, past, doing{al, op, list(v)})
			}
			for _, v := range otherValues() {
				refused(t, s, doing{al, op, list(v)})
			}
		}
		for _, op := range setOps {
			for _, v := range takenValues() {
				steps(t, s, past, doing{al, op, list(v)})
			}
		}
	}
}

func TestClients(t *testing.T) {
	for _, past := range pasts() {
		s := runs(t, past...)
		for _, op := range setOps {
			for _, client := range takenValues() {
				steps(t, s, past, doing{client, op, ints(7)})
			}
			for _, client := range otherValues() {
				refused(t, s, doing{client, op, ints(7)})
			}
		}
	}
}

// A state of no set does nothing: the one that New of another model answers, one
// that a step answers that may not be, and others.
func TestStatesOfOtherModels(t *testing.T) {
	none, _ := New(api.Map)
	never, _, _ := Step(runs(t, add(isInt(7))), nothing, api.Has, isInt(7))
	for _, op := range append(slices.Clone(allOps), farNumbers...) {
		for many := range 3 {
			d := doing{al, op, slices.Repeat(ints(7), many)}
			refused(t, none, d)
			refused(t, never, d)
			for _, model := range []int{api.Register, api.Cas, api.Map, api.Fifo, api.Stack, api.Lock, api.Counter, api.Max, api.Ordered, 11, -1} {
				refused(t, api.State{Model: model}, d)
			}
		}
	}
}

// P14.1: what each step comes to, told by hand.

// play is a step, what comes out, and what is in it behind it.
type play struct {
	do  doing
	out []api.Value
	in  []api.Value
}

func plays(t *testing.T, all ...play) {
	t.Helper()
	s := first(t)
	for i, p := range all {
		next, out, ok := Step(s, p.do.client, p.do.op, p.do.args...)
		if !ok || !slices.Equal(out, p.out) || !isSet(next, p.in) {
			t.Fatalf("step %d, %v: %#v, %v, %v, want %v, %v", i, p.do, next, out, ok, p.in, p.out)
		}
		s = next
	}
}

func TestAdd(t *testing.T) {
	a, b := isWord("a"), isWord("b")
	plays(t,
		play{add(isInt(5)), nil, ints(5)},          // at first
		play{add(isInt(5)), nil, ints(5)},          // the same again
		play{add(isInt(3)), nil, ints(3, 5)},       // ahead of all
		play{add(isInt(9)), nil, ints(3, 5, 9)},    // behind all
		play{add(isInt(4)), nil, ints(3, 4, 5, 9)}, // between two
		play{add(isInt(8)), nil, ints(3, 4, 5, 8, 9)},
		play{add(isInt(3)), nil, ints(3, 4, 5, 8, 9)}, // each of them again
		play{add(isInt(4)), nil, ints(3, 4, 5, 8, 9)},
		play{add(isInt(5)), nil, ints(3, 4, 5, 8, 9)},
		play{add(isInt(8)), nil, ints(3, 4, 5, 8, 9)},
		play{add(isInt(9)), nil, ints(3, 4, 5, 8, 9)},
	)
	plays(t,
		play{add(isInt(-1)), nil, ints(-1)},
		play{add(isInt(1)), nil, ints(-1, 1)},
		play{add(isInt(-10)), nil, ints(-10, -1, 1)},
		play{add(isInt(-9)), nil, ints(-10, -9, -1, 1)},
		play{add(isInt(0)), nil, ints(-10, -9, -1, 0, 1)},
		play{add(isInt(10)), nil, ints(-10, -9, -1, 0, 1, 10)},
		play{add(isInt(9)), nil, ints(-10, -9, -1, 0, 1, 9, 10)},
		play{add(isInt(math.MaxInt64)), nil, ints(-10, -9, -1, 0, 1, 9, 10, math.MaxInt64)},
		play{add(isInt(math.MinInt64)), nil, ints(math.MinInt64, -10, -9, -1, 0, 1, 9, 10, math.MaxInt64)},
		play{add(isInt(math.MinInt64)), nil, ints(math.MinInt64, -10, -9, -1, 0, 1, 9, 10, math.MaxInt64)},
		play{add(isInt(math.MaxInt64)), nil, ints(math.MinInt64, -10, -9, -1, 0, 1, 9, 10, math.MaxInt64)},
	)
	// Numbers and words, in either order.
	plays(t, play{add(isInt(math.MaxInt64)), nil, ints(math.MaxInt64)}, play{add(a), nil, list(isInt(math.MaxInt64), a)})
	plays(t, play{add(a), nil, list(a)}, play{add(isInt(math.MaxInt64)), nil, list(isInt(math.MaxInt64), a)})
	plays(t,
		play{add(b), nil, list(b)},
		play{add(isInt(-3)), nil, list(isInt(-3), b)},
		play{add(a), nil, list(isInt(-3), a, b)},
		play{add(isWord("ab")), nil, list(isInt(-3), a, isWord("ab"), b)},
		play{add(isInt(7)), nil, list(isInt(-3), isInt(7), a, isWord("ab"), b)},
		play{add(isWord("a_")), nil, list(isInt(-3), isInt(7), a, isWord("a_"), isWord("ab"), b)},
		play{add(isWord("a9")), nil, list(isInt(-3), isInt(7), a, isWord("a9"), isWord("a_"), isWord("ab"), b)},
		play{add(a), nil, list(isInt(-3), isInt(7), a, isWord("a9"), isWord("a_"), isWord("ab"), b)},
	)
}

func TestDel(t *testing.T) {
	a := isWord("a")
	plays(t, play{del(isInt(5)), nil, nil}, play{del(isInt(5)), nil, nil}, play{del(a), nil, nil}, play{del(isInt(0)), nil, nil}) // at first
	plays(t,
		play{add(isInt(5)), nil, ints(5)},
		play{del(isInt(4)), nil, ints(5)}, // ones that aren't in it
		play{del(isInt(6)), nil, ints(5)},
		play{del(isInt(-5)), nil, ints(5)},
		play{del(a), nil, ints(5)},
		play{del(isInt(5)), nil, nil}, // the only one
		play{del(isInt(5)), nil, nil}, // that was taken out
		play{add(isInt(5)), nil, ints(5)},
		play{del(isInt(5)), nil, nil},
	)
	five := []play{
		{add(isInt(1)), nil, ints(1)}, {add(isInt(3)), nil, ints(1, 3)}, {add(isInt(5)), nil, ints(1, 3, 5)},
		{add(isInt(7)), nil, ints(1, 3, 5, 7)}, {add(a), nil, append(ints(1, 3, 5, 7), a)},
	}
	for _, n := range []int64{-1, 0, 2, 4, 6, 8} {
		plays(t, append(slices.Clip(five), play{del(isInt(n)), nil, append(ints(1, 3, 5, 7), a)})...)
	}
	plays(t, append(slices.Clip(five), play{del(isWord("aa")), nil, append(ints(1, 3, 5, 7), a)})...)
	plays(t, append(slices.Clip(five),
		play{del(isInt(1)), nil, append(ints(3, 5, 7), a)}, // the first one
		play{del(a), nil, ints(3, 5, 7)},                   // the last one
		play{del(isInt(5)), nil, ints(3, 7)},               // the one between
		play{del(isInt(5)), nil, ints(3, 7)},
		play{del(isInt(1)), nil, ints(3, 7)},
		play{del(a), nil, ints(3, 7)},
		play{del(isInt(7)), nil, ints(3)},
		play{del(isInt(3)), nil, nil},
		play{del(isInt(3)), nil, nil},
		play{add(isInt(5)), nil, ints(5)},
	)...)
}

func TestHas(t *testing.T) {
	a, v := isWord("a"), isInt(5)
	plays(t, play{has(v), list(no), nil}, play{has(a), list(no), nil}, play{has(isInt(0)), list(no), nil}) // at first
	plays(t,
		play{add(v), nil, list(v)},
		play{has(v), list(yes), list(v)}, // that is in it
		play{has(v), list(yes), list(v)},
		play{has(isInt(4)), list(no), list(v)}, // that never were
		play{has(isInt(6)), list(no), list(v)},
		play{has(isInt(-5)), list(no), list(v)},
		play{has(a), list(no), list(v)},
		play{del(v), nil, nil},
		play{has(v), list(no), nil}, // that was taken out
		play{add(a), nil, list(a)},
		play{has(v), list(no), list(a)},
		play{add(v), nil, list(v, a)},
		play{has(v), list(yes), list(v, a)}, // that was put in again
		play{has(a), list(yes), list(v, a)},
		play{add(v), nil, list(v, a)},
		play{del(v), nil, list(a)}, // it was in it once only
		play{has(v), list(no), list(a)},
		play{has(a), list(yes), list(a)},
		play{has(isWord("aa")), list(no), list(a)},
		play{del(v), nil, list(a)},
		play{add(v), nil, list(v, a)}, // and out of it once only
		play{has(v), list(yes), list(v, a)},
	)
}

func TestExamples(t *testing.T) {
	plays(t,
		play{add(isInt(5)), nil, ints(5)}, play{has(isInt(5)), list(yes), ints(5)},
		play{del(isInt(5)), nil, nil}, play{has(isInt(5)), list(no), nil},
	)
}

// P14.1: each value once, in order.

// All that may be handed in, in many orders, each as often as it comes.
func TestInWhateverOrderTheyCame(t *testing.T) {
	sorted := takenValues()
	backwards := takenValues()
	slices.Reverse(backwards)
	orders := [][]api.Value{sorted, backwards, append(takenValues(), sorted...), append(takenValues(), backwards...)}
	r := rand.New(rand.NewSource(14))
	for range 60 {
		l := append(takenValues(), sorted[:r.Intn(20)]...)
		r.Shuffle(len(l), func(i, j int) { l[i], l[j] = l[j], l[i] })
		orders = append(orders, l)
	}
	for _, l := range orders {
		if s := runs(t, adds(l...)...); !isSet(s, sorted) {
			t.Errorf("%v came to %v", l, s.L)
		}
	}
}

// evens is the state of the even numbers from 0 on, and none else, and its past.
func evens(t *testing.T, many int) (api.State, []doing) {
	t.Helper()
	var past []doing
	for i := range many {
		past = append(past, add(isInt(int64(2*i))))
	}
	return runs(t, past...), past
}

// Each number that is there and each gap, in sets of many sizes.
func TestEachPlace(t *testing.T) {
	for many := range 20 {
		s, past := evens(t, many)
		for n := int64(-1); n <= int64(2*many); n++ {
			for _, op := range setOps {
				steps(t, s, past, doing{al, op, ints(n)})
			}
		}
	}
}

func TestMany(t *testing.T) {
	const many = 3000
	r := rand.New(rand.NewSource(3))
	numbers := r.Perm(many)
	s := first(t)
	for _, n := range numbers {
		s, _, _ = Step(s, al, api.Add, isInt(int64(n-many/2)))
	}
	for n := range many {
		v := isInt(int64(n - many/2))
		if _, out, ok := Step(s, al, api.Has, v); !ok || !slices.Equal(out, list(yes)) || s.L[n] != v {
			t.Fatalf("has %v: %v, %v; in its place stands %v", v, out, ok, s.L[n])
		}
	}
	if len(s.L) != many {
		t.Fatalf("%d are in it", len(s.L))
	}
	for i, n := range numbers {
		s, _, _ = Step(s, al, api.Del, isInt(int64(n-many/2)))
		if len(s.L) != many-i-1 {
			t.Fatalf("%d are in it, %d were taken out", len(s.L), i+1)
		}
	}
	if !isSet(s, nil) {
		t.Fatalf("emptied: %#v", s)
	}
}

// place asks nothing of what it is handed but the order that it is handed.
func TestPlaceOfAnyType(t *testing.T) {
	for many := range 70 {
		var l []int
		for i := range many {
			l = append(l, 2*i)
		}
		for n := -1; n <= 2*many; n++ {
			at, in := place(l, n, cmp.Compare)
			if at != (n+1)/2 || in != (n >= 0 && n < 2*many && n%2 == 0) {
				t.Fatalf("%d of %d: %d, %v", n, many, at, in)
			}
		}
	}
	words := []string{"c", "b", "a"}
	back := func(a, b string) int { return strings.Compare(b, a) }
	for i, w := range words {
		if at, in := place(words, w, back); at != i || !in {
			t.Errorf("%s: %d, %v", w, at, in)
		}
	}
	if at, in := place(words, "bb", back); at != 1 || in {
		t.Errorf("bb: %d, %v", at, in)
	}
}

// P14.1, P14.2: every short run of steps, and longer ones at random.

// eachStep are the steps that may be, with these values.
func eachStep(values ...api.Value) []doing {
	var all []doing
	for _, v := range values {
		all = append(all, add(v), del(v), has(v))
	}
	return all
}

func TestEveryShortRun(t *testing.T) {
	all := eachStep(isInt(-1), isInt(1), isWord("a"))
	var past []doing
	var goOn func(s api.State)
	goOn = func(s api.State) {
		if len(past) == 5 {
			return
		}
		for _, d := range all {
			next := steps(t, s, past, d)
			past = append(past, d)
			goOn(next)
			past = past[:len(past)-1]
		}
	}
	goOn(first(t))
}

// drawn is a step of some client, that mostly may be.
func drawn(r *rand.Rand) doing {
	some := takenValues()
	if r.Intn(2) == 0 {
		some = some[7:12]
	}
	if r.Intn(30) == 0 {
		some = append(some, otherValues()...)
	}
	pick := func() api.Value { return some[r.Intn(len(some))] }
	d := doing{pick(), setOps[r.Intn(3)], nil}
	if r.Intn(30) == 0 {
		d.op = r.Intn(15)
	}
	many := 1
	if r.Intn(30) == 0 {
		many = r.Intn(4)
	}
	for range many {
		d.args = append(d.args, pick())
	}
	return d
}

func TestLongRunsAtRandom(t *testing.T) {
	r := rand.New(rand.NewSource(41))
	refusals := 0
	for range 200 {
		s := first(t)
		var past []doing
		for range 60 {
			d := drawn(r)
			tries(t, s, past, d)
			if !mayBe(d) {
				refusals++
				continue
			}
			s, _, _ = Step(s, d.client, d.op, d.args...)
			past = append(past, d)
		}
	}
	if refusals < 300 {
		t.Errorf("only %d steps were refused", refusals)
	}
}

// P14.2: the same steps come to the same, whatever was done between them.
func TestTheSameStepsComeToTheSame(t *testing.T) {
	r := rand.New(rand.NewSource(28))
	for range 200 {
		here, there := first(t), first(t)
		for range 30 {
			d := drawn(r)
			next, out, ok := Step(here, d.client, d.op, d.args...)
			for range 3 {
				x := drawn(r)
				s, _ := New(api.Set)
				Step(s, x.client, x.op, x.args...)
				Step(here, x.client, x.op, x.args...)
			}
			again, out2, ok2 := Step(there, d.client, d.op, d.args...)
			if ok != ok2 || !slices.Equal(out, out2) || again.Model != next.Model || !slices.Equal(again.L, next.L) {
				t.Fatalf("%v came once to %v, %v, %v and once to %v, %v, %v", d, next, out, ok, again, out2, ok2)
			}
			if ok {
				here, there = next, again
			}
		}
	}
}

// Who does a step makes no difference.
func TestAnyClientComesToTheSame(t *testing.T) {
	for _, past := range pasts() {
		s := runs(t, past...)
		for _, d := range eachStep(isInt(7), isWord("a"), isInt(1)) {
			want, wantOut, _ := Step(s, d.client, d.op, d.args...)
			for _, client := range takenValues() {
				next, out, ok := Step(s, client, d.op, d.args...)
				if !ok || !isSet(next, want.L) || !slices.Equal(out, wantOut) {
					t.Fatalf("%v of %v: %v, %v, %v", d, client, next, out, ok)
				}
			}
		}
	}
}

// Rules.

// R3: an empty set is one, its list nil or empty.
func TestNilAndEmpty(t *testing.T) {
	for _, l := range [][]api.Value{nil, {}, ints(7, 8)[:0]} {
		s := first(t)
		s.L = l
		for _, d := range eachStep(isInt(7), isWord("a")) {
			steps(t, s, nil, d)
		}
		refused(t, s, doing{al, api.Add, nil})
		refused(t, s, doing{al, api.Add, list()})
	}
}

// withRoom is l with room for two values behind it, that are told too.
func withRoom(l []api.Value) (short, full []api.Value) {
	full = append(append(make([]api.Value, 0, len(l)+2), l...), isWord("spare"), isWord("room"))
	return full[:len(l)], full
}

// R4: what is handed in stays, spare room included, the state and its list among it.
func TestWhatIsHandedInStays(t *testing.T) {
	for name, past := range pasts() {
		was := runs(t, past...)
		for _, op := range allOps {
			for _, v := range append(takenValues(), nothing, yes) {
				for many := range 4 {
					args, allArgs := withRoom(slices.Repeat(list(v), many))
					wasArgs := slices.Clone(allArgs)
					l, allOfIt := withRoom(was.L)
					wasAll := slices.Clone(allOfIt)
					s := api.State{Model: api.Set, L: l}
					Step(s, al, op, args...)
					if !slices.Equal(allArgs, wasArgs) || !slices.Equal(allOfIt, wasAll) || !isSet(s, was.L) {
						t.Fatalf("%s: Step(%d, %v) changed what was handed in: %v, %v, %v", name, op, args, allArgs, allOfIt, s)
					}
				}
			}
		}
	}
}

// An elder state goes on as it was, whatever is done with those behind it.
func TestElderStatesStay(t *testing.T) {
	r := rand.New(rand.NewSource(7))
	values := takenValues()[7:12]
	for range 60 {
		var past []doing
		all := []api.State{first(t)}
		for range 12 {
			d := doing{al, setOps[r.Intn(3)], list(values[r.Intn(len(values))])}
			all = append(all, steps(t, all[len(all)-1], past, d))
			past = append(past, d)
		}
		for _, i := range r.Perm(len(all)) {
			for _, d := range eachStep(values...) {
				steps(t, all[i], past[:i], d)
			}
			if !isSet(all[i], content(past[:i])) {
				t.Fatalf("behind %v: %v", past[:i], all[i])
			}
		}
	}
}

// Steps that go out from one state don't meet in what they answer.
func TestBranchesStayApart(t *testing.T) {
	for name, past := range pasts() {
		s := runs(t, past...)
		var branches []api.State
		all := eachStep(append(takenValues(), isInt(7))...)
		for _, d := range all {
			branches = append(branches, steps(t, s, past, d))
		}
		for i, d := range all {
			if !isSet(branches[i], content(append(slices.Clone(past), d))) {
				t.Fatalf("%s: behind %v: %v", name, d, branches[i])
			}
		}
	}
}

func spoil(l []api.Value) {
	l = l[:cap(l)]
	for i := range l {
		l[i] = isWord("spoiled")
	}
}

// R4: what is answered is new, spare room included.
func TestWhatIsAnsweredIsNew(t *testing.T) {
	for name, past := range pasts() {
		s := runs(t, past...)
		was := slices.Clone(s.L)
		for _, d := range eachStep(append(takenValues(), isInt(7))...) {
			args, allArgs := withRoom(d.args)
			wasArgs := slices.Clone(allArgs)
			next, out, _ := Step(s, al, d.op, args...)
			wantOut := slices.Clone(out)
			elder, elderOut, _ := Step(s, al, d.op, args...)
			wantL := slices.Clone(elder.L)
			spoil(out)
			spoil(next.L)
			if !slices.Equal(allArgs, wasArgs) || !slices.Equal(elderOut, wantOut) || !isSet(elder, wantL) || !isSet(s, was) {
				t.Fatalf("%s: what %v answers is shared", name, d)
			}
			spoil(args)
			if !slices.Equal(elderOut, wantOut) || !isSet(elder, wantL) || !isSet(s, was) {
				t.Fatalf("%s: what was handed in to %v is kept", name, d)
			}
			steps(t, s, past, d)
			steps(t, elder, append(slices.Clone(past), d), d)
		}
	}
	zero := first(t)
	spoil(zero.L)
	first(t)
}

// FuzzBag does steps out of bytes: two bytes tell a step.
func FuzzBag(f *testing.F) {
	f.Add([]byte{0, 3, 2, 3, 1, 3, 2, 3})
	f.Add([]byte{0, 9, 0, 1, 0, 5, 0, 9, 2, 0x15, 1, 1, 0, 7})
	f.Add([]byte{4, 0xf1, 8, 0xc2, 3, 1, 12, 0xff})
	f.Fuzz(func(t *testing.T, told []byte) {
		values := append(takenValues()[2:14], nothing, yes, isWord("A"), api.Value{Kind: api.Int, S: "1"})
		s := first(t)
		var past []doing
		for ; len(told) > 1 && len(past) < 100; told = told[2:] {
			a, b := values[told[1]&15], values[told[1]>>4]
			d := doing{client: al, op: api.Add + int(told[0]&3), args: list(a)}
			if told[0]&4 != 0 {
				d.client = b
			}
			if told[0]&8 != 0 {
				d.args = list(a, b)[:told[1]%3]
			}
			tries(t, s, past, d)
			if mayBe(d) {
				s, _, _ = Step(s, d.client, d.op, d.args...)
				past = append(past, d)
			}
		}
	})
}
