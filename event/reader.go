package event

import (
	"math"

	"incognito/api"
	"incognito/num"
	"incognito/sign"
	"incognito/value"
)

// words are those of a line that are still to be read.
type words struct {
	left []string
}

func (w *words) more() bool {
	return len(w.left) > 0
}

// next answers the next word, and goes on behind it. Where a word lacks it is the
// empty text, which no line has as a word: so all that reads a word refuses it.
func (w *words) next() string {
	if !w.more() {
		return ""
	}
	word := w.left[0]
	w.left = w.left[1:]
	return word
}

// reader makes an event of its words. It reads on behind a fault, but keeps the
// first one, beside which nothing that it has read counts.
type reader struct {
	words
	fault api.Errno
}

// keep takes e for the fault, if there is none yet.
func (r *reader) keep(e api.Errno) {
	if r.fault == api.OK {
		r.fault = e
	}
}

// must keeps ErrSyntax, unless it is so.
func (r *reader) must(so bool) {
	if !so {
		r.keep(api.ErrSyntax)
	}
}

// event reads all the words.
func (r *reader) event() api.Event {
	var event api.Event
	event.Time = r.time()
	event.Client = r.taken(api.DClient)
	event.Type = r.kind()
	switch event.Type {
	case api.Invoke:
		r.call(&event)
	case api.Done:
		for r.more() {
			event.Out = append(event.Out, r.value())
		}
	}
	r.must(!r.more())
	return event
}

// call reads what stands behind the type of an Invoke.
func (r *reader) call(event *api.Event) {
	event.Model = r.model()
	event.Key = r.taken(api.DObject)
	// A word of nothing that is done is 0, which no model can do.
	event.Op, _ = sign.Op(r.next())
	domains, can := sign.Args(event.Model, event.Op)
	r.must(can)
	for _, domain := range domains {
		event.Args = append(event.Args, r.taken(domain))
	}
}

func (r *reader) time() int64 {
	n, e := num.Count(r.next(), math.MaxInt64)
	r.keep(e)
	return n
}

// kind reads an event's type.
func (r *reader) kind() int {
	word := r.next()
	for kind, name := range types {
		// At 0, where no type is, the empty text stands.
		if name == word && kind != 0 {
			return kind
		}
	}
	r.keep(api.ErrSyntax)
	return 0
}

func (r *reader) model() int {
	model, ok := sign.Model(r.next())
	r.must(ok)
	return model
}

func (r *reader) value() api.Value {
	v, e := value.Parse(r.next())
	r.keep(e)
	return v
}

// taken reads a value that the domain is to take.
func (r *reader) taken(domain int) api.Value {
	v := r.value()
	r.must(sign.Takes(domain, v))
	return v
}
