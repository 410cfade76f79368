package dict

import (
	"fmt"
	"math"
	"math/rand"
	"regexp"
	"slices"
	"strings"
	"testing"

	"incognito/api"
	"incognito/sign"
)

// What the chapter says, looked up in all steps that were done, without a state.

var models = []int{api.Map, api.Ordered}

var allOps = []int{
	api.Write, api.Read, api.Swap, api.Add, api.Del, api.Has, api.Put,
	api.Get, api.Push, api.Pop, api.Take, api.Free, api.Scan,
}

// opsOf is what can be done with a state of the model.
func opsOf(model int) []int {
	if model == api.Map {
		return []int{api.Put, api.Get, api.Del}
	}
	return []int{api.Put, api.Del, api.Scan}
}

// manyOf is how many values it wants.
func manyOf(op int) int {
	if op == api.Put || op == api.Scan {
		return 2
	}
	return 1
}

// Numbers that are no model's, and nothing's that is done.
var farNumbers = []int{math.MinInt, math.MinInt + 1, -1 << 32, -256, -15, -13, -10, -8, -7, -5, -4, -2, -1, 0, 14, 15, 16, 64, 255, 256, 257, 260, 261, 263, 264, 266, 269, 1 << 16, 1 << 32, 1<<32 + 4, 1<<32 + 5, 1<<32 + 7, 1<<32 + 8, 1<<32 + 10, 1<<32 + 13, math.MaxInt - 1, math.MaxInt}

const (
	least    = math.MinInt64
	greatest = math.MaxInt64
)

func isInt(n int64) api.Value   { return api.Value{Kind: api.Int, N: n} }
func isWord(s string) api.Value { return api.Value{Kind: api.Word, S: s} }
func isBool(n int64) api.Value  { return api.Value{Kind: api.Bool, N: n} }

func list(values ...api.Value) []api.Value { return values }

var (
	nothing = api.Value{}
	al      = isWord("al")
	x       = isWord("x")
	y       = isWord("y")
	z       = isWord("z")
	yes     = isBool(1)
	no      = isBool(0)
)

// takenValues are values that may be handed in, in layer 7's order.
func takenValues() []api.Value {
	return []api.Value{
		isInt(least), isInt(least + 1), isInt(-10), isInt(-9), isInt(-1), isInt(0), isInt(1), isInt(2), isInt(9), isInt(10), isInt(greatest - 1), isInt(greatest),
		isWord("a"), isWord("a0"), isWord("a_"), isWord("aa"), isWord("ab"), isWord("b"), isWord("t"), isWord("z"), isWord("z9_"), isWord(strings.Repeat("z", 40)),
	}
}

// otherValues are those that may not: nothing, yes and no, and all that isn't right.
func otherValues() []api.Value {
	return []api.Value{
		nothing, yes, no,
		{N: 1}, {S: "a"}, {N: 7, S: "al"},
		{Kind: api.Int, S: "a"}, {Kind: api.Int, N: 7, S: "7"},
		{Kind: api.Word}, {Kind: api.Word, N: 1, S: "a"}, {Kind: api.Word, S: "A"}, {Kind: api.Word, S: "7"}, {Kind: api.Word, S: "~"}, {Kind: api.Word, S: "a b"}, {Kind: api.Word, S: strings.Repeat("a", 41)},
		{Kind: api.Bool, N: 2}, {Kind: api.Bool, N: -1}, {Kind: api.Bool, S: "a"},
		{Kind: 4}, {Kind: -1, N: 1}, {Kind: 257, N: 7}, {Kind: math.MinInt}, {Kind: math.MaxInt},
	}
}

var wordForm = regexp.MustCompile(`\A[a-z][a-z0-9_]{0,39}\z`)

// taken tells whether v is a number or a word.
func taken(v api.Value) bool {
	return v == isInt(v.N) || v == isWord(v.S) && wordForm.MatchString(v.S)
}

// isAhead tells whether a is ahead of b in layer 7's order: of two numbers and words.
func isAhead(a, b api.Value) bool {
	switch {
	case a.Kind != b.Kind:
		return a.Kind == api.Int
	case a.Kind == api.Word:
		return a.S < b.S
	}
	return a.N < b.N
}

// doing is one step.
type doing struct {
	client api.Value
	op     int
	args   []api.Value
}

func put(k, v api.Value) doing  { return doing{al, api.Put, list(k, v)} }
func del(k api.Value) doing     { return doing{al, api.Del, list(k)} }
func gets(k api.Value) doing    { return doing{al, api.Get, list(k)} }
func scan(a, b api.Value) doing { return doing{al, api.Scan, list(a, b)} }

// puts are steps that put each of these keys, with the place where it stands here.
func puts(keys ...api.Value) []doing {
	var all []doing
	for i, k := range keys {
		all = append(all, put(k, isInt(int64(i))))
	}
	return all
}

// mayBe tells whether that step of a state of the model may be.
func mayBe(model int, d doing) bool {
	return slices.Contains(opsOf(model), d.op) && len(d.args) == manyOf(d.op) && taken(d.client) &&
		!slices.ContainsFunc(d.args, func(v api.Value) bool { return !taken(v) })
}

// had is what the key has behind all of these steps, each of which may be: what was
// last put there, if it wasn't taken out behind that.
func had(past []doing, key api.Value) api.Value {
	for _, d := range slices.Backward(past) {
		switch {
		case d.args[0] != key:
		case d.op == api.Put:
			return d.args[1]
		case d.op == api.Del:
			return nothing
		}
	}
	return nothing
}

// content is what is in it behind these steps: of all keys that are there the one that
// is ahead of each other, and what it has, then of those behind that one, and so on.
func content(past []doing) []api.Value {
	left := map[api.Value]int{}
	for _, d := range past {
		if had(past, d.args[0]) != nothing {
			left[d.args[0]] = 1
		}
	}
	var l []api.Value
	for len(left) > 0 {
		first, any := nothing, false
		for k := range left {
			if !any || isAhead(k, first) {
				first, any = k, true
			}
		}
		l = append(l, first, had(past, first))
		delete(left, first)
	}
	return l
}

// comesOut is what comes out of a step that may be, behind these.
func comesOut(past []doing, d doing) []api.Value {
	switch d.op {
	case api.Get:
		return list(had(past, d.args[0]))
	case api.Scan:
		var out []api.Value
		for pair := range slices.Chunk(content(past), 2) {
			if !isAhead(pair[0], d.args[0]) && !isAhead(d.args[1], pair[0]) {
				out = append(out, pair...)
			}
		}
		return out
	}
	return nil
}

// isState tells whether s is the model's state of that list, and zero else.
func isState(s api.State, model int, l []api.Value) bool {
	return s.Model == model && slices.Equal(s.L, l) && s.One == nothing && s.N == 0
}

// isZero tells whether s is the zero state.
func isZero(s api.State) bool {
	return isState(s, 0, nil) && cap(s.L) == 0
}

func first(t *testing.T, model int) api.State {
	t.Helper()
	s, ok := New(model)
	if !ok || !isState(s, model, nil) {
		t.Fatalf("New(%d) = %#v, %v", model, s, ok)
	}
	return s
}

// steps does a step that may be, behind past, and wants the chapter's answer.
func steps(t *testing.T, s api.State, past []doing, d doing) api.State {
	t.Helper()
	next, out, ok := Step(s, d.client, d.op, d.args...)
	want := content(append(slices.Clone(past), d))
	wantOut := comesOut(past, d)
	if !ok || !isState(next, s.Model, want) || !slices.Equal(out, wantOut) {
		t.Fatalf("model %d, behind %v: Step(%v) = %#v, %v, %v, want %v to be in it and %v", s.Model, past, d, next, out, ok, want, wantOut)
	}
	if _, ok := sign.Outs(s.Model, d.op, out...); !ok {
		t.Fatalf("model %d, behind %v: %v came out of %v, which may not", s.Model, past, out, d)
	}
	return next
}

// refused wants the step not to be.
func refused(t *testing.T, s api.State, d doing) {
	t.Helper()
	next, out, ok := Step(s, d.client, d.op, d.args...)
	if ok || len(out) != 0 || cap(out) != 0 || !isZero(next) {
		t.Fatalf("Step(%v, %v) = %#v, %v, %v", s, d, next, out, ok)
	}
}

// tries does the step if it may be, and else wants it refused.
func tries(t *testing.T, s api.State, past []doing, d doing) {
	t.Helper()
	if mayBe(s.Model, d) {
		steps(t, s, past, d)
		return
	}
	refused(t, s, d)
}

// runs does all steps from the first state on, and answers the last one's state.
func runs(t *testing.T, model int, all ...doing) api.State {
	t.Helper()
	s := first(t, model)
	for i, d := range all {
		s = steps(t, s, all[:i], d)
	}
	return s
}

// P17.1: New.

func TestNew(t *testing.T) {
	for _, model := range models {
		first(t, model)
	}
}

func TestNewOfEveryOtherModel(t *testing.T) {
	others := []int{api.Register, api.Cas, api.Set, api.Fifo, api.Stack, api.Lock, api.Counter, api.Max, 11, 12, 13}
	for _, model := range append(others, farNumbers...) {
		if s, ok := New(model); ok || !isZero(s) {
			t.Errorf("New(%d) = %#v, %v", model, s, ok)
		}
	}
	for model := -300; model <= 300; model++ {
		s, ok := New(model)
		if ok != slices.Contains(models, model) || !ok && !isZero(s) {
			t.Errorf("New(%d) = %#v, %v", model, s, ok)
		}
	}
}

// P17.1: which steps may be.

// pasts are some ways to come to a state: at first, with some keys, and emptied.
func pasts() map[string][]doing {
	seven, a := isInt(7), isWord("a")
	return map[string][]doing{
		"at first":     nil,
		"with 7":       {put(seven, x)},
		"with a":       {put(a, seven)},
		"with both":    {put(a, x), put(seven, y)},
		"with many":    puts(takenValues()...),
		"with 7 again": {put(seven, x), del(seven), put(seven, y)},
		"7 twice":      {put(seven, x), put(seven, y)},
		"emptied":      {put(seven, x), del(seven)},
	}
}

// eachPast does what is asked with each model and each past.
func eachPast(t *testing.T, asked func(name string, s api.State, past []doing)) {
	t.Helper()
	for _, model := range models {
		for name, past := range pasts() {
			asked(fmt.Sprintf("model %d, %s", model, name), runs(t, model, past...), past)
		}
	}
}

// Each thing that is done, and numbers around, with 0 to 4 values.
func TestStepOfEachThing(t *testing.T) {
	eachPast(t, func(name string, s api.State, past []doing) {
		done := 0
		for _, op := range append(slices.Clone(allOps), farNumbers...) {
			for many := range 5 {
				d := doing{al, op, slices.Repeat(list(isInt(7)), many)}
				tries(t, s, past, d)
				if _, _, ok := Step(s, d.client, d.op, d.args...); ok {
					done++
				}
			}
		}
		if done != 3 {
			t.Errorf("%s: %d things can be done, not 3", name, done)
		}
	})
}

// As many values as it wants, one fewer and one more, told one by one.
func TestHowManyValues(t *testing.T) {
	v := isInt(7)
	eachPast(t, func(name string, s api.State, past []doing) {
		steps(t, s, past, put(v, v))
		steps(t, s, past, del(v))
		if s.Model == api.Map {
			steps(t, s, past, gets(v))
			refused(t, s, scan(v, v))
		} else {
			steps(t, s, past, scan(v, v))
			refused(t, s, gets(v))
		}
		for _, op := range []int{api.Put, api.Scan} {
			refused(t, s, doing{al, op, nil})
			refused(t, s, doing{al, op, list()})
			refused(t, s, doing{al, op, list(v)})
			refused(t, s, doing{al, op, list(v, v, v)})
			refused(t, s, doing{al, op, list(v, v, nothing)})
			refused(t, s, doing{al, op, list(v, v, v, v)})
		}
		for _, op := range []int{api.Del, api.Get} {
			refused(t, s, doing{al, op, nil})
			refused(t, s, doing{al, op, list()})
			refused(t, s, doing{al, op, list(v, v)})
			refused(t, s, doing{al, op, list(v, nothing)})
			refused(t, s, doing{al, op, list(v, isInt(8))})
		}
		for _, d := range []doing{
			{al, api.Write, list(v)}, {al, api.Read, nil}, {al, api.Swap, list(v, v)}, {al, api.Add, list(v)}, {al, api.Has, list(v)},
			{al, api.Push, list(v)}, {al, api.Pop, nil}, {al, api.Take, nil}, {al, api.Free, nil},
		} {
			refused(t, s, d)
		}
	})
}

// Values of each kind, right and not right, in each place.
func TestValuesOfEachKind(t *testing.T) {
	all := append(takenValues(), otherValues()...)
	eachPast(t, func(name string, s api.State, past []doing) {
		for _, op := range allOps {
			for _, v := range all {
				tries(t, s, past, doing{al, op, list(v)})
				for _, w := range []api.Value{v, isInt(7), al, isWord("a"), isInt(least)} {
					tries(t, s, past, doing{al, op, list(v, w)})
					tries(t, s, past, doing{al, op, list(w, v)})
				}
			}
			for _, v := range otherValues() {
				refused(t, s, doing{al, op, list(v)})
				refused(t, s, doing{al, op, list(v, v)})
				refused(t, s, doing{al, op, list(v, isInt(7))})
				refused(t, s, doing{al, op, list(isInt(7), v)})
				refused(t, s, doing{al, op, list(v, al)})
				refused(t, s, doing{al, op, list(al, v)})
			}
		}
		for _, v := range takenValues() {
			for _, w := range takenValues() {
				steps(t, s, past, put(v, w))
				if s.Model == api.Ordered {
					steps(t, s, past, scan(v, w))
				}
			}
			steps(t, s, past, del(v))
			if s.Model == api.Map {
				steps(t, s, past, gets(v))
			}
		}
	})
}

func TestClients(t *testing.T) {
	eachPast(t, func(name string, s api.State, past []doing) {
		for _, op := range opsOf(s.Model) {
			args := slices.Repeat(list(isInt(7)), manyOf(op))
			for _, client := range takenValues() {
				steps(t, s, past, doing{client, op, args})
			}
			for _, client := range otherValues() {
				refused(t, s, doing{client, op, args})
			}
		}
	})
}

// A state of no model of this layer does nothing: the one that New of another model
// answers, one that a step answers that may not be, and others.
func TestStatesOfOtherModels(t *testing.T) {
	none, _ := New(api.Set)
	never, _, _ := Step(runs(t, api.Map, put(isInt(7), x)), nothing, api.Get, isInt(7))
	for _, op := range append(slices.Clone(allOps), farNumbers...) {
		for many := range 4 {
			d := doing{al, op, slices.Repeat(list(isInt(7)), many)}
			refused(t, none, d)
			refused(t, never, d)
			for _, model := range []int{api.Register, api.Cas, api.Set, api.Fifo, api.Stack, api.Lock, api.Counter, api.Max, 11, -1, 260, 266} {
				refused(t, api.State{Model: model}, d)
			}
		}
	}
}

// P17.1: what each step comes to, told by hand.

// play is a step, what comes out, and what is in it behind it.
type play struct {
	do  doing
	out []api.Value
	in  []api.Value
}

func plays(t *testing.T, model int, all ...play) {
	t.Helper()
	s := first(t, model)
	for i, p := range all {
		next, out, ok := Step(s, p.do.client, p.do.op, p.do.args...)
		if !ok || !slices.Equal(out, p.out) || !isState(next, model, p.in) {
			t.Fatalf("model %d, step %d, %v: %#v, %v, %v, want %v, %v", model, i, p.do, next, out, ok, p.in, p.out)
		}
		s = next
	}
}

func TestPut(t *testing.T) {
	one, two, three, five, nine := isInt(1), isInt(2), isInt(3), isInt(5), isInt(9)
	for _, model := range models {
		plays(t, model,
			play{put(five, x), nil, list(five, x)},                             // into nothing
			play{put(five, x), nil, list(five, x)},                             // the same again
			play{put(five, y), nil, list(five, y)},                             // something else
			play{put(two, z), nil, list(two, z, five, y)},                      // ahead of all
			play{put(nine, x), nil, list(two, z, five, y, nine, x)},            // behind all
			play{put(three, x), nil, list(two, z, three, x, five, y, nine, x)}, // between two
			play{put(three, x), nil, list(two, z, three, x, five, y, nine, x)}, // each of them again
			play{put(three, y), nil, list(two, z, three, y, five, y, nine, x)},
			play{put(two, two), nil, list(two, two, three, y, five, y, nine, x)},    // the first one
			play{put(nine, two), nil, list(two, two, three, y, five, y, nine, two)}, // the last one
			play{put(one, nine), nil, list(one, nine, two, two, three, y, five, y, nine, two)},
			play{put(five, one), nil, list(one, nine, two, two, three, y, five, one, nine, two)},
		)
		// A key that another one has is no key, and what keys have is in no order.
		plays(t, model,
			play{put(one, nine), nil, list(one, nine)},
			play{put(five, one), nil, list(one, nine, five, one)},
			play{put(nine, nine), nil, list(one, nine, five, one, nine, nine)},
			play{put(one, five), nil, list(one, five, five, one, nine, nine)},
		)
	}
}

// Keys that are numbers and words, in layer 7's order.
func TestPutInOrder(t *testing.T) {
	a, ab, b := isWord("a"), isWord("ab"), isWord("b")
	low, high, minus := isInt(least), isInt(greatest), isInt(-3)
	for _, model := range models {
		plays(t, model,
			play{put(b, x), nil, list(b, x)},
			play{put(minus, x), nil, list(minus, x, b, x)},
			play{put(a, y), nil, list(minus, x, a, y, b, x)},
			play{put(high, y), nil, list(minus, x, high, y, a, y, b, x)},
			play{put(ab, z), nil, list(minus, x, high, y, a, y, ab, z, b, x)},
			play{put(low, z), nil, list(low, z, minus, x, high, y, a, y, ab, z, b, x)},
			play{put(isWord("a_"), low), nil, list(low, z, minus, x, high, y, a, y, isWord("a_"), low, ab, z, b, x)},
			play{put(isInt(-30), a), nil, list(low, z, isInt(-30), a, minus, x, high, y, a, y, isWord("a_"), low, ab, z, b, x)},
			play{put(low, b), nil, list(low, b, isInt(-30), a, minus, x, high, y, a, y, isWord("a_"), low, ab, z, b, x)},
		)
		plays(t, model, play{put(high, x), nil, list(high, x)}, play{put(a, y), nil, list(high, x, a, y)})
		plays(t, model, play{put(a, y), nil, list(a, y)}, play{put(high, x), nil, list(high, x, a, y)})
		plays(t, model, play{put(low, x), nil, list(low, x)}, play{put(high, y), nil, list(low, x, high, y)}, play{put(isInt(0), z), nil, list(low, x, isInt(0), z, high, y)})
	}
}

func TestDel(t *testing.T) {
	one, three, five, a := isInt(1), isInt(3), isInt(5), isWord("a")
	for _, model := range models {
		plays(t, model, play{del(five), nil, nil}, play{del(five), nil, nil}, play{del(a), nil, nil}, play{del(isInt(0)), nil, nil}) // at first
		plays(t, model,
			play{put(five, x), nil, list(five, x)},
			play{del(isInt(4)), nil, list(five, x)}, // ones that aren't there
			play{del(isInt(6)), nil, list(five, x)},
			play{del(isInt(-5)), nil, list(five, x)},
			play{del(a), nil, list(five, x)},
			play{del(x), nil, list(five, x)},
			play{del(five), nil, nil}, // the only one
			play{del(five), nil, nil}, // that was taken out
			play{put(five, y), nil, list(five, y)},
			play{del(five), nil, nil},
		)
		four := []play{
			{put(one, x), nil, list(one, x)}, {put(three, a), nil, list(one, x, three, a)}, {put(five, three), nil, list(one, x, three, a, five, three)},
			{put(a, one), nil, list(one, x, three, a, five, three, a, one)},
		}
		for _, k := range []api.Value{isInt(-1), isInt(0), isInt(2), isInt(4), isInt(6), isInt(least), isInt(greatest), isWord("aa"), x} {
			plays(t, model, append(slices.Clip(four), play{del(k), nil, list(one, x, three, a, five, three, a, one)})...)
		}
		plays(t, model, append(slices.Clip(four),
			play{del(one), nil, list(three, a, five, three, a, one)}, // the first one
			play{del(a), nil, list(three, a, five, three)},           // the last one
			play{del(a), nil, list(three, a, five, three)},
			play{put(a, x), nil, list(three, a, five, three, a, x)},
			play{del(five), nil, list(three, a, a, x)}, // one in the middle
			play{del(five), nil, list(three, a, a, x)},
			play{del(one), nil, list(three, a, a, x)},
			play{del(three), nil, list(a, x)},
			play{del(a), nil, nil},
			play{del(a), nil, nil},
			play{put(three, five), nil, list(three, five)},
		)...)
	}
}

func TestGet(t *testing.T) {
	five, a := isInt(5), isWord("a")
	plays(t, api.Map, play{gets(five), list(nothing), nil}, play{gets(a), list(nothing), nil}, play{gets(isInt(0)), list(nothing), nil}) // at first
	plays(t, api.Map,
		play{put(five, x), nil, list(five, x)},
		play{gets(five), list(x), list(five, x)}, // that is there
		play{gets(five), list(x), list(five, x)},
		play{gets(isInt(4)), list(nothing), list(five, x)}, // that never were
		play{gets(isInt(6)), list(nothing), list(five, x)},
		play{gets(isInt(-5)), list(nothing), list(five, x)},
		play{gets(x), list(nothing), list(five, x)},
		play{put(five, five), nil, list(five, five)},
		play{gets(five), list(five), list(five, five)},
		play{del(five), nil, nil},
		play{gets(five), list(nothing), nil}, // that was taken out
		play{put(a, z), nil, list(a, z)},
		play{gets(five), list(nothing), list(a, z)},
		play{put(five, y), nil, list(five, y, a, z)},
		play{gets(five), list(y), list(five, y, a, z)}, // that was put anew
		play{gets(a), list(z), list(five, y, a, z)},
		play{put(isInt(7), a), nil, list(five, y, isInt(7), a, a, z)},
		play{gets(isInt(7)), list(a), list(five, y, isInt(7), a, a, z)},
		play{gets(a), list(z), list(five, y, isInt(7), a, a, z)},
		play{gets(z), list(nothing), list(five, y, isInt(7), a, a, z)},
		play{del(isInt(7)), nil, list(five, y, a, z)},
		play{gets(isInt(7)), list(nothing), list(five, y, a, z)},
	)
}

func TestScan(t *testing.T) {
	one, three, five, a, c := isInt(1), isInt(3), isInt(5), isWord("a"), isWord("c")
	low, high := isInt(least), isInt(greatest)
	for _, ends := range [][2]api.Value{{one, three}, {low, high}, {low, z}, {five, five}, {a, a}, {z, low}} {
		plays(t, api.Ordered, play{scan(ends[0], ends[1]), nil, nil}) // at first
	}
	all := list(one, x, three, one, five, a, a, y, c, three)
	were := []play{
		{put(c, three), nil, list(c, three)}, {put(three, one), nil, list(three, one, c, three)}, {put(a, y), nil, list(three, one, a, y, c, three)},
		{put(one, x), nil, list(one, x, three, one, a, y, c, three)}, {put(five, a), nil, all},
	}
	for _, found := range []struct {
		a, b api.Value
		out  []api.Value
	}{
		{low, z, all}, {one, c, all}, {low, c, all}, {one, z, all}, {isInt(0), isWord("ca"), all}, // all of them
		{low, isInt(0), nil}, {isInt(2), isInt(2), nil}, {isInt(6), high, nil}, {isWord("d"), z, nil}, {isWord("aa"), isWord("b"), nil}, // none
		{isInt(4), isInt(4), nil}, {high, high, nil}, {low, low, nil}, {z, z, nil},
		{one, one, list(one, x)}, {low, one, list(one, x)}, {one, isInt(2), list(one, x)}, {isInt(0), isInt(2), list(one, x)}, // one
		{three, three, list(three, one)}, {isInt(2), isInt(4), list(three, one)}, {isInt(2), three, list(three, one)}, {three, isInt(4), list(three, one)},
		{five, five, list(five, a)}, {five, high, list(five, a)}, {a, a, list(a, y)}, {isInt(6), isWord("b"), list(a, y)}, {c, c, list(c, three)}, {c, z, list(c, three)}, {isWord("b"), z, list(c, three)},
		{one, three, list(one, x, three, one)}, {low, high, list(one, x, three, one, five, a)}, {isInt(2), high, list(three, one, five, a)}, // some
		{five, a, list(five, a, a, y)}, {isInt(4), isWord("aa"), list(five, a, a, y)}, {a, c, list(a, y, c, three)}, {three, c, list(three, one, five, a, a, y, c, three)},
		{three, one, nil}, {c, one, nil}, {z, low, nil}, {high, low, nil}, {a, five, nil}, {isInt(4), isInt(2), nil}, {c, a, nil}, {isWord("b"), isInt(4), nil}, // the other way round
	} {
		plays(t, api.Ordered, append(slices.Clip(were), play{scan(found.a, found.b), found.out, all})...)
	}
}

// What was put and taken out between is found, and isn't.
func TestScanBehindPutAndDel(t *testing.T) {
	one, two, a := isInt(1), isInt(2), isWord("a")
	low := isInt(least)
	plays(t, api.Ordered,
		play{put(two, x), nil, list(two, x)},
		play{scan(low, z), list(two, x), list(two, x)},
		play{put(one, y), nil, list(one, y, two, x)},
		play{scan(low, z), list(one, y, two, x), list(one, y, two, x)},
		play{put(two, z), nil, list(one, y, two, z)},
		play{scan(low, z), list(one, y, two, z), list(one, y, two, z)},
		play{scan(low, z), list(one, y, two, z), list(one, y, two, z)},
		play{scan(two, two), list(two, z), list(one, y, two, z)},
		play{del(one), nil, list(two, z)},
		play{scan(low, z), list(two, z), list(two, z)},
		play{scan(low, one), nil, list(two, z)},
		play{put(a, one), nil, list(two, z, a, one)},
		play{scan(one, z), list(two, z, a, one), list(two, z, a, one)},
		play{del(two), nil, list(a, one)},
		play{scan(one, two), nil, list(a, one)},
		play{scan(two, a), list(a, one), list(a, one)},
		play{del(a), nil, nil},
		play{scan(low, z), nil, nil},
		play{put(one, two), nil, list(one, two)},
		play{scan(low, z), list(one, two), list(one, two)},
	)
}

func TestExamples(t *testing.T) {
	one, two := isInt(1), isInt(2)
	plays(t, api.Ordered,
		play{put(two, x), nil, list(two, x)}, play{put(one, y), nil, list(one, y, two, x)},
		play{scan(one, two), list(one, y, two, x), list(one, y, two, x)},
	)
}

// P17.1: each key once, in order.

// All that may be a key, in many orders, each as often as it comes.
func TestInWhateverOrderTheyCame(t *testing.T) {
	sorted := takenValues()
	backwards := takenValues()
	slices.Reverse(backwards)
	orders := [][]api.Value{sorted, backwards, append(takenValues(), sorted...), append(takenValues(), backwards...)}
	r := rand.New(rand.NewSource(17))
	for range 30 {
		l := append(takenValues(), sorted[:r.Intn(20)]...)
		r.Shuffle(len(l), func(i, j int) { l[i], l[j] = l[j], l[i] })
		orders = append(orders, l)
	}
	for _, l := range orders {
		for _, model := range models {
			s := runs(t, model, puts(l...)...)
			if len(s.L) != 2*len(sorted) {
				t.Fatalf("%v came to %v", l, s.L)
			}
			for i, k := range sorted {
				last := len(l) - 1
				for l[last] != k {
					last--
				}
				if s.L[2*i] != k || s.L[2*i+1] != isInt(int64(last)) {
					t.Fatalf("%v came to %v", l, s.L)
				}
			}
		}
	}
}

// evens is the state of the even numbers from 0 on, and none else, and its past.
func evens(t *testing.T, model, many int) (api.State, []doing) {
	t.Helper()
	var past []doing
	for i := range many {
		past = append(past, put(isInt(int64(2*i)), isInt(int64(many-i))))
	}
	return runs(t, model, past...), past
}

// Each key that is there and each gap, with keys in any number, and all ends of scans.
func TestEachPlace(t *testing.T) {
	for many := range 8 {
		for _, model := range models {
			s, past := evens(t, model, many)
			for n := int64(-1); n <= int64(2*many); n++ {
				for _, op := range opsOf(model) {
					if manyOf(op) == 1 {
						steps(t, s, past, doing{al, op, list(isInt(n))})
						continue
					}
					for m := int64(-1); m <= int64(2*many); m++ {
						steps(t, s, past, doing{al, op, list(isInt(n), isInt(m))})
					}
				}
			}
		}
	}
}

func TestMany(t *testing.T) {
	const many = 1000
	r := rand.New(rand.NewSource(3))
	for _, model := range models {
		numbers := r.Perm(many)
		s := first(t, model)
		for i, n := range numbers {
			s, _, _ = Step(s, al, api.Put, isInt(int64(n-many/2)), isInt(int64(i)))
		}
		if len(s.L) != 2*many {
			t.Fatalf("%d values are in it", len(s.L))
		}
		for i, n := range numbers {
			k, v := isInt(int64(n-many/2)), isInt(int64(i))
			if s.L[2*n] != k || s.L[2*n+1] != v {
				t.Fatalf("in the place of %v stand %v", k, s.L[2*n:2*n+2])
			}
			if model == api.Map {
				if _, out, ok := Step(s, al, api.Get, k); !ok || !slices.Equal(out, list(v)) {
					t.Fatalf("get %v: %v, %v", k, out, ok)
				}
			} else if _, out, ok := Step(s, al, api.Scan, k, isInt(greatest)); !ok || !slices.Equal(out, s.L[2*n:]) {
				t.Fatalf("scan from %v: %v, %v", k, out, ok)
			}
		}
		for i, n := range numbers {
			s, _, _ = Step(s, al, api.Del, isInt(int64(n-many/2)))
			if len(s.L) != 2*(many-i-1) {
				t.Fatalf("%d values are in it, %d keys were taken out", len(s.L), i+1)
			}
		}
		if !isState(s, model, nil) {
			t.Fatalf("emptied: %#v", s)
		}
	}
}

// Who goes through the keys may leave off at any of them.
func TestPairsAreLeftAnywhere(t *testing.T) {
	l := list(isInt(1), x, isInt(2), y, isInt(3), z)
	for many := range 4 {
		var told []api.Value
		if many > 0 {
			for key, has := range pairs(l) {
				told = append(told, key, has)
				if len(told) == 2*many {
					break
				}
			}
		}
		if !slices.Equal(told, l[:2*many]) {
			t.Errorf("%d keys: %v", many, told)
		}
	}
	for range 2 {
		for range pairs(nil) {
			t.Error("a key of nothing")
		}
	}
}

// P17.1, P17.2: every short run of steps, and longer ones at random.

// eachStep are steps that may be of a state of the model, with these keys, and with
// these values put there.
func eachStep(model int, keys, values []api.Value) []doing {
	var all []doing
	for _, k := range keys {
		for _, v := range values {
			all = append(all, put(k, v))
		}
		all = append(all, del(k))
		if model == api.Map {
			all = append(all, gets(k))
			continue
		}
		for _, b := range keys {
			all = append(all, scan(k, b))
		}
	}
	return all
}

func TestEveryShortRun(t *testing.T) {
	for _, model := range models {
		all := eachStep(model, list(isInt(-1), isInt(1), isWord("a")), list(x, isInt(1)))
		var past []doing
		var goOn func(s api.State)
		goOn = func(s api.State) {
			if len(past) == 4 {
				return
			}
			for _, d := range all {
				next := steps(t, s, past, d)
				past = append(past, d)
				goOn(next)
				past = past[:len(past)-1]
			}
		}
		goOn(first(t, model))
	}
}

// drawn is a step of some client, that mostly may be of a state of the model.
func drawn(r *rand.Rand, model int) doing {
	some := takenValues()
	if r.Intn(2) == 0 {
		some = some[8:15]
	}
	if r.Intn(30) == 0 {
		some = append(some, otherValues()...)
	}
	pick := func() api.Value { return some[r.Intn(len(some))] }
	d := doing{pick(), opsOf(model)[r.Intn(3)], nil}
	if r.Intn(30) == 0 {
		d.op = r.Intn(15)
	}
	many := manyOf(d.op)
	if r.Intn(30) == 0 {
		many = r.Intn(4)
	}
	for range many {
		d.args = append(d.args, pick())
	}
	return d
}

func TestLongRunsAtRandom(t *testing.T) {
	r := rand.New(rand.NewSource(44))
	for _, model := range models {
		refusals := 0
		for range 100 {
			s := first(t, model)
			var past []doing
			for range 60 {
				d := drawn(r, model)
				tries(t, s, past, d)
				if !mayBe(model, d) {
					refusals++
					continue
				}
				s, _, _ = Step(s, d.client, d.op, d.args...)
				past = append(past, d)
			}
		}
		if refusals < 200 {
			t.Errorf("model %d: only %d steps were refused", model, refusals)
		}
	}
}

// P17.2: the same steps come to the same, whatever was done between them.
func TestTheSameStepsComeToTheSame(t *testing.T) {
	r := rand.New(rand.NewSource(30))
	for i := range 200 {
		model := models[i%2]
		here, there := first(t, model), first(t, model)
		for range 30 {
			d := drawn(r, model)
			next, out, ok := Step(here, d.client, d.op, d.args...)
			for range 3 {
				other := models[r.Intn(2)]
				o := drawn(r, other)
				s, _ := New(other)
				Step(s, o.client, o.op, o.args...)
				Step(here, o.client, o.op, o.args...)
			}
			again, out2, ok2 := Step(there, d.client, d.op, d.args...)
			if ok != ok2 || !slices.Equal(out, out2) || !isState(again, next.Model, next.L) {
				t.Fatalf("%v came once to %v, %v, %v and once to %v, %v, %v", d, next, out, ok, again, out2, ok2)
			}
			if ok {
				here, there = next, again
			}
		}
	}
}

// someSteps are steps that may be of a state of the model, of keys that are there in
// some of its pasts and of others.
func someSteps(model int) []doing {
	return eachStep(model, list(isInt(least), isInt(6), isInt(7), isWord("a"), isWord("b")), list(x, isInt(7)))
}

// Who does a step makes no difference.
func TestAnyClientComesToTheSame(t *testing.T) {
	eachPast(t, func(name string, s api.State, past []doing) {
		for _, d := range someSteps(s.Model) {
			want, wantOut, _ := Step(s, d.client, d.op, d.args...)
			for _, client := range takenValues() {
				next, out, ok := Step(s, client, d.op, d.args...)
				if !ok || !isState(next, want.Model, want.L) || !slices.Equal(out, wantOut) {
					t.Fatalf("%s: %v of %v: %v, %v, %v", name, d, client, next, out, ok)
				}
			}
		}
	})
}

// A Map and an Ordered come to the same by what can be done with both.
func TestBothModelsKeepTheSame(t *testing.T) {
	r := rand.New(rand.NewSource(9))
	for range 100 {
		a, b := first(t, api.Map), first(t, api.Ordered)
		for range 30 {
			d := drawn(r, api.Map)
			if d.op == api.Get || !mayBe(api.Map, d) {
				continue
			}
			a, _, _ = Step(a, d.client, d.op, d.args...)
			b, _, _ = Step(b, d.client, d.op, d.args...)
			if !isState(a, api.Map, b.L) || !isState(b, api.Ordered, a.L) {
				t.Fatalf("%v and %v", a, b)
			}
		}
	}
}

// Rules.

// R3: no keys are nil or empty, which is one, and no values.
func TestNilAndEmpty(t *testing.T) {
	for _, model := range models {
		for _, l := range [][]api.Value{nil, {}, list(al, x)[:0]} {
			s := first(t, model)
			s.L = l
			for _, d := range someSteps(model) {
				steps(t, s, nil, d)
			}
			for _, op := range opsOf(model) {
				refused(t, s, doing{al, op, nil})
				refused(t, s, doing{al, op, list()})
			}
		}
	}
}

// withRoom is l with room for two values behind it, that are told too.
func withRoom(l []api.Value) (short, full []api.Value) {
	full = append(append(make([]api.Value, 0, len(l)+2), l...), isWord("spare"), isWord("room"))
	return full[:len(l)], full
}

// R4: what is handed in stays, spare room included, the state and its list among it.
func TestWhatIsHandedInStays(t *testing.T) {
	eachPast(t, func(name string, was api.State, past []doing) {
		for _, op := range allOps {
			for _, v := range append(takenValues(), isInt(7), nothing, yes) {
				for many := range 4 {
					args, allArgs := withRoom(slices.Repeat(list(v), many))
					wasArgs := slices.Clone(allArgs)
					l, allOfIt := withRoom(was.L)
					wasAll := slices.Clone(allOfIt)
					s := api.State{Model: was.Model, L: l}
					Step(s, al, op, args...)
					if !slices.Equal(allArgs, wasArgs) || !slices.Equal(allOfIt, wasAll) || !isState(s, was.Model, was.L) {
						t.Fatalf("%s: Step(%d, %v) changed what was handed in: %v, %v, %v", name, op, args, allArgs, allOfIt, s)
					}
				}
			}
		}
	})
}

// Two steps from one elder state disturb neither each other nor that state.
func TestTwoStepsFromOneState(t *testing.T) {
	r := rand.New(rand.NewSource(5))
	eachPast(t, func(name string, s api.State, past []doing) {
		all := someSteps(s.Model)
		for range 200 {
			one, other := all[r.Intn(len(all))], all[r.Intn(len(all))]
			left := steps(t, s, past, one)
			right := steps(t, s, past, other)
			steps(t, left, append(slices.Clone(past), one), other)
			steps(t, right, append(slices.Clone(past), other), one)
			if !isState(s, s.Model, content(past)) || !isState(left, s.Model, content(append(slices.Clone(past), one))) || !isState(right, s.Model, content(append(slices.Clone(past), other))) {
				t.Fatalf("%s: %v and %v: %v, %v, %v", name, one, other, s, left, right)
			}
		}
	})
}

// An elder state goes on as it was, whatever is done with those behind it.
func TestElderStatesStay(t *testing.T) {
	r := rand.New(rand.NewSource(8))
	for i := range 40 {
		model := models[i%2]
		choice := someSteps(model)
		var past []doing
		all := []api.State{first(t, model)}
		for range 12 {
			d := choice[r.Intn(len(choice))]
			all = append(all, steps(t, all[len(all)-1], past, d))
			past = append(past, d)
		}
		for _, i := range r.Perm(len(all)) {
			for _, d := range choice {
				steps(t, all[i], past[:i], d)
			}
		}
		for i, s := range all {
			if !isState(s, model, content(past[:i])) {
				t.Fatalf("behind %v: %v", past[:i], s)
			}
		}
	}
}

// Steps that go out from one state don't meet in what they answer.
func TestBranchesStayApart(t *testing.T) {
	eachPast(t, func(name string, s api.State, past []doing) {
		var branches []api.State
		all := someSteps(s.Model)
		for _, d := range all {
			branches = append(branches, steps(t, s, past, d))
		}
		for i, d := range all {
			if !isState(branches[i], s.Model, content(append(slices.Clone(past), d))) {
				t.Fatalf("%s: behind %v: %v", name, d, branches[i])
			}
		}
	})
}

func spoil(l []api.Value) {
	l = l[:cap(l)]
	for i := range l {
		l[i] = isWord("spoiled")
	}
}

// R4: what is answered is new, spare room included.
func TestWhatIsAnsweredIsNew(t *testing.T) {
	eachPast(t, func(name string, s api.State, past []doing) {
		was := slices.Clone(s.L)
		for _, d := range append(someSteps(s.Model), eachStep(s.Model, takenValues()[:3], list(z))...) {
			args, allArgs := withRoom(d.args)
			wasArgs := slices.Clone(allArgs)
			next, out, _ := Step(s, al, d.op, args...)
			elder, elderOut, _ := Step(s, al, d.op, args...)
			wantL, wantOut := slices.Clone(elder.L), slices.Clone(elderOut)
			same := func() bool {
				return slices.Equal(elderOut, wantOut) && isState(elder, s.Model, wantL) && isState(s, s.Model, was)
			}
			spoil(out)
			if !slices.Equal(allArgs, wasArgs) || !same() || !isState(next, s.Model, wantL) {
				t.Fatalf("%s: what comes out of %v is shared", name, d)
			}
			spoil(next.L)
			if !slices.Equal(allArgs, wasArgs) || !same() {
				t.Fatalf("%s: what %v answers is shared", name, d)
			}
			spoil(args)
			if !same() {
				t.Fatalf("%s: what was handed in to %v is kept", name, d)
			}
			steps(t, s, past, d)
			steps(t, elder, append(slices.Clone(past), d), d)
		}
	})
	for _, model := range models {
		zero := first(t, model)
		spoil(zero.L)
		first(t, model)
	}
}

// FuzzDict does steps out of bytes: the first tells the model, two more each a step.
func FuzzDict(f *testing.F) {
	f.Add([]byte{0, 0, 0x31, 0, 0x42, 1, 3, 0, 0x53, 1, 3, 2, 1, 1, 1})
	f.Add([]byte{1, 0, 0x31, 0, 0x42, 2, 0x41, 0, 0x13, 2, 0x30, 1, 1, 2, 0x90})
	f.Add([]byte{1, 4, 0xf1, 8, 0xc2, 3, 1, 12, 0xff})
	f.Fuzz(func(t *testing.T, told []byte) {
		if len(told) == 0 {
			return
		}
		values := append(takenValues()[5:17], nothing, yes, isWord("A"), api.Value{Kind: api.Int, S: "1"})
		model := models[told[0]&1]
		s := first(t, model)
		var past []doing
		for told = told[1:]; len(told) > 1 && len(past) < 100; told = told[2:] {
			a, b := values[told[1]&15], values[told[1]>>4]
			d := doing{al, opsOf(model)[told[0]&3%3], list(a, b)}
			d.args = d.args[:manyOf(d.op)]
			if told[0]&4 != 0 {
				d.client = b
			}
			if told[0]&8 != 0 {
				d.args = list(a, b)[:told[1]%3]
			}
			if told[0]&16 != 0 {
				d.op = int(told[0] >> 4)
			}
			tries(t, s, past, d)
			if mayBe(model, d) {
				s, _, _ = Step(s, d.client, d.op, d.args...)
				past = append(past, d)
			}
		}
	})
}
