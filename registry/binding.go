package registry

import (
	"iter"
	"slices"

	"taproot/api"
	"taproot/ask"
	"taproot/order"
	"taproot/pool"
	"taproot/schema"
	"taproot/topic"
)

// binding is the one that a pair tells of. It has nothing but its key.
func binding(p api.Pair) (api.Binding, api.Errno) {
	x, e := schema.Parse(p.Key)
	switch {
	case e != api.OK:
		return api.Binding{}, e
	case p.Value != "":
		return api.Binding{}, api.ErrForm
	}
	return x.Binding, api.OK
}

// Bindings: an exchange's.
func Bindings(r Reader, exchange string) iter.Seq2[api.Binding, api.Errno] {
	from, to := schema.Under("b", order.Str(exchange))
	// Of an exchange that is too long for a key there are no bounds, and without bounds all would be its own.
	if from == "" {
		return func(func(api.Binding, api.Errno) bool) {}
	}
	return ask.Things(r, from, to, binding)
}

// Bind: an exchange leads to a queue.
func Bind(w Writer, b api.Binding) api.Errno {
	if e := lawful(b); e != api.OK {
		return e
	}
	if _, e := Find(w, b.Queue); e != api.OK {
		return e
	}
	for x, e := range Bindings(w, b.Exchange) {
		switch {
		case e != api.OK:
			return e
		case x.Kind != b.Kind:
			return api.ErrKind
		}
	}
	key, e := schema.Bind(b)
	if e != api.OK {
		return e
	}
	_, there, e := ask.Get(w, key)
	switch {
	case e != api.OK:
		return e
	case there:
		return api.ErrThere
	}
	return ask.Put(w, key, "")
}

// lawful is what is wrong with a binding, whatever else is there.
func lawful(b api.Binding) api.Errno {
	switch {
	case !topic.Name(b.Exchange) || !topic.Name(b.Queue):
		return api.ErrName
	case b.Kind != api.Direct && b.Kind != api.Fanout && b.Kind != api.Topic:
		return api.ErrKind
	case !topic.Right(b.Kind, b.Key):
		return api.ErrPattern
	}
	return api.OK
}

// Unbind: it doesn't any more. What is too long for a key isn't there.
func Unbind(w Writer, b api.Binding) api.Errno {
	key, e := schema.Bind(b)
	if e != api.OK {
		return api.ErrNone
	}
	there, e := ask.Cut(w, key)
	if e == api.OK && !there {
		return api.ErrNone
	}
	return e
}

// Route: where an exchange leads by a key.
func Route(r Reader, exchange, key string) ([]string, api.Errno) {
	if exchange == "" {
		return straight(r, key)
	}
	switch {
	case !topic.Name(exchange):
		return nil, api.ErrName
	case !topic.Key(key):
		return nil, api.ErrForm
	}
	bound := false
	queues := pool.Of[string]()
	for b, e := range Bindings(r, exchange) {
		if e != api.OK {
			return nil, e
		}
		bound = true
		if topic.Fits(b.Kind, b.Key, key) {
			queues.Add(b.Queue)
		}
	}
	if !bound {
		return nil, api.ErrNone
	}
	return slices.Collect(queues.All()), api.OK
}

// straight is where the empty exchange leads: to the queue of that name.
func straight(r Reader, name string) ([]string, api.Errno) {
	if _, e := Find(r, name); e != api.OK {
		return nil, e
	}
	return []string{name}, api.OK
}
