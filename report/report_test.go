package report_test

import (
	"math"
	"slices"
	"strconv"
	"strings"
	"testing"

	"taproot/api"
	"taproot/broker"
	"taproot/check"
	"taproot/dump"
	"taproot/report"
)

func TestLines(t *testing.T) {
	is(t, "numbers", report.Lines([]int{1, -2, 3}, strconv.Itoa), "1\n-2\n3\n")
	is(t, "one", report.Lines([]string{"a"}, strings.ToUpper), "A\n")
	is(t, "empty texts", report.Lines([]string{"", "", ""}, strings.ToUpper), "\n\n\n")
	is(t, "as they are", report.Lines([]string{"\x00\n", "\xff"}, strings.Clone), "\x00\n\n\xff\n")
	is(t, "queues", report.Lines([]api.Queue{{Name: "a"}, {Name: "b"}}, report.Queue), "queue \"a\" most 0 ttl 0 tries 0 dead \"\"\nqueue \"b\" most 0 ttl 0 tries 0 dead \"\"\n")
	is(t, "none", report.Lines(nil, strconv.Itoa), "")
	is(t, "an empty list", report.Lines([]int{}, strconv.Itoa), "")
	is(t, "no function", report.Lines([]int{1, 2}, nil), "")
	is(t, "no function, none", report.Lines[int](nil, nil), "")
	var got []int
	l := []int{5, 5, 4}
	report.Lines(l, func(n int) string { got = append(got, n); return "" })
	is(t, "each once, in order", slices.Equal(got, l), true)
	is(t, "many", report.Lines(make([]int, 70000), strconv.Itoa), strings.Repeat("0\n", 70000))
}

// No call panics. A function that does is as good as none.
func TestLinesOfAPanic(t *testing.T) {
	for at := range 4 {
		is(t, "a panic", report.Lines([]int{0, 1, 2, 3}, func(n int) string {
			if n == at {
				panic("at it")
			}
			return strconv.Itoa(n)
		}), "")
	}
}

func TestQueue(t *testing.T) {
	for want, q := range map[string]api.Queue{
		`queue "a" most 0 ttl 0 tries 0 dead ""`:                                                     {Name: "a"},
		`queue "" most 0 ttl 0 tries 0 dead ""`:                                                      {},
		`queue "a" most 1 ttl 2 tries 3 dead "d"`:                                                    {Name: "a", Most: 1, TTL: 2, Tries: 3, Dead: "d"},
		`queue "\"\\\n\x00 é" most 4294967295 ttl 18446744073709551615 tries 4294967294 dead "\xff"`: {Name: "\"\\\n\x00 é", Most: math.MaxUint32, TTL: math.MaxUint64, Tries: math.MaxUint32 - 1, Dead: "\xff"},
	} {
		want = strings.ReplaceAll(want, "é", `\xc3\xa9`)
		is(t, "a queue", report.Queue(q), want)
	}
}

func TestMessage(t *testing.T) {
	for want, m := range map[string]api.Message{
		`message "a" #1 tries 0 until never 2 bytes`:                                                   {Queue: "a", ID: 1, Body: "hi"},
		`message "" #0 tries 0 until never 0 bytes`:                                                    {},
		`message "a b" #7 tries 2 until 9 1 bytes`:                                                     {Queue: "a b", ID: 7, Tries: 2, Expiry: 9, Body: "\n"},
		`message "a" #1 tries 0 until 1 3 bytes`:                                                       {Queue: "a", ID: 1, Expiry: 1, Body: "\x00\xffé"[:3]},
		`message "\xff" #18446744073709551615 tries 4294967295 until 18446744073709551615 70000 bytes`: {Queue: "\xff", ID: math.MaxUint64, Tries: math.MaxUint32, Expiry: math.MaxUint64, Body: strings.Repeat("b", 70000)},
	} {
		is(t, "a message", report.Message(m), want)
	}
}

func TestReply(t *testing.T) {
	hi, ho := api.Message{Queue: "a", ID: 5, Tries: 1, Body: "hi"}, api.Message{Queue: "b\n", ID: 6, Expiry: 7}
	for want, r := range map[string]broker.Reply{
		"ok 0":                    {},
		"ok 18446744073709551615": {N: math.MaxUint64},
		"ok 1 ids [5]":            {N: 1, IDs: []uint64{5}},
		"ok 3 ids [5 6 5]":        {N: 3, IDs: []uint64{5, 6, 5}},
		"ok 0 lost [1 2]":         {Lost: []uint64{1, 2}},
		"ok 0 dead [0]":           {Dead: []uint64{0}},
		"ok 2 ids [18446744073709551615] lost [0] dead [3 2]": {N: 2, IDs: []uint64{math.MaxUint64}, Lost: []uint64{0}, Dead: []uint64{3, 2}},
		"ok 0 ids [1] dead [2]":                               {IDs: []uint64{1}, Dead: []uint64{2}},
		"ok 0 lost [1] dead [2]":                              {Lost: []uint64{1}, Dead: []uint64{2}},
		"ok 4":                                                {N: 4, IDs: []uint64{}, Lost: []uint64{}, Dead: []uint64{}, List: []api.Message{}},
		"ok 0\n  message \"a\" #5 tries 1 until never 2 bytes":                                                                          {List: []api.Message{hi}},
		"ok 0\n  message \"a\" #5 tries 1 until never 2 bytes\n  message \"b\\n\" #6 tries 0 until 7 0 bytes":                           {List: []api.Message{hi, ho}},
		"ok 9 ids [1] lost [2] dead [3]\n  message \"b\\n\" #6 tries 0 until 7 0 bytes\n  message \"a\" #5 tries 1 until never 2 bytes": {N: 9, IDs: []uint64{1}, Lost: []uint64{2}, Dead: []uint64{3}, List: []api.Message{ho, hi}},
		"error 21": {Err: api.ErrNone},
		"error 60": {Err: api.ErrSyntax, N: 7, IDs: []uint64{5}, Lost: []uint64{1}, Dead: []uint64{2}, List: []api.Message{hi}},
		"error 1":  {Err: api.ErrNil, N: 1},
		"error -5": {Err: -5, List: []api.Message{hi}},
		"error 7":  {Err: 7},
	} {
		is(t, "a reply", report.Reply(r), want)
	}
}

func TestDump(t *testing.T) {
	is(t, "nothing", report.Dump(dump.Dump{}), "clock 0 last 0\n")
	is(t, "empty lists", report.Dump(dump.Dump{Queues: []api.Queue{}, Bindings: []api.Binding{}, Messages: []api.Message{}}), "clock 0 last 0\n")
	is(t, "numbers alone", report.Dump(dump.Dump{Clock: math.MaxUint64, Last: 7}), "clock 18446744073709551615 last 7\n")
	d := dump.Dump{
		Clock: 5, Last: 9,
		Queues: []api.Queue{{Name: "a", Most: 1, TTL: 2, Tries: 3, Dead: "b"}, {Name: "b"}},
		Bindings: []api.Binding{
			{Exchange: "x", Kind: api.Direct, Key: "k", Queue: "a"}, {Exchange: "f", Kind: api.Fanout, Queue: "b"}, {Exchange: "t", Kind: api.Topic, Key: "a.#", Queue: "a"},
			{Kind: 0}, {Kind: 4}, {Kind: -1}, {Exchange: "\"", Kind: math.MaxInt, Key: "\n", Queue: "\x00"}, {Kind: math.MinInt},
		},
		Messages: []api.Message{{Queue: "a", ID: 9, Expiry: 8, Body: "hi"}, {Queue: "b", ID: 3, Tries: 4}},
	}
	is(t, "all", report.Dump(d), `clock 5 last 9
queue "a" most 1 ttl 2 tries 3 dead "b"
queue "b" most 0 ttl 0 tries 0 dead ""
bind "x" direct "k" to "a"
bind "f" fanout "" to "b"
bind "t" topic "a.#" to "a"
bind "" kind0 "" to ""
bind "" kind4 "" to ""
bind "" kind-1 "" to ""
bind "\"" kind9223372036854775807 "\n" to "\x00"
bind "" kind-9223372036854775808 "" to ""
message "a" #9 tries 0 until 8 2 bytes
message "b" #3 tries 4 until never 0 bytes
`)
	is(t, "in the order they stand in", report.Dump(dump.Dump{Messages: []api.Message{{ID: 2}, {ID: 1}, {ID: 2}}}),
		"clock 0 last 0\nmessage \"\" #2 tries 0 until never 0 bytes\nmessage \"\" #1 tries 0 until never 0 bytes\nmessage \"\" #2 tries 0 until never 0 bytes\n")
	is(t, "bindings alone", report.Dump(dump.Dump{Bindings: d.Bindings[:1]}), "clock 0 last 0\nbind \"x\" direct \"k\" to \"a\"\n")
}

func TestPages(t *testing.T) {
	pages := func(n int) []uint32 { return make([]uint32, n) }
	for want, r := range map[string]check.Report{
		"pages: tree 0, chains 0, ledger 0, free 0\npairs: 0 of 0 bytes, 0 deep\n":                                               {},
		"pages: tree 1, chains 2, ledger 3, free 14\npairs: 5 of 6 bytes, 7 deep\n":                                              {Tree: pages(1), Chains: pages(2), Ledger: pages(3), Free: pages(14), Pairs: 5, Bytes: 6, Depth: 7},
		"pages: tree 0, chains 0, ledger 0, free 0, lost [2]\npairs: 0 of 0 bytes, 0 deep\n":                                     {Lost: []uint32{2}},
		"pages: tree 0, chains 0, ledger 0, free 0, twice [0 4294967295]\npairs: 0 of 0 bytes, 0 deep\n":                         {Twice: []uint32{0, math.MaxUint32}},
		"pages: tree 2, chains 0, ledger 0, free 1, lost [9 8 9], twice [5 6]\npairs: 0 of 18446744073709551615 bytes, 8 deep\n": {Tree: pages(2), Free: pages(1), Lost: []uint32{9, 8, 9}, Twice: []uint32{5, 6}, Bytes: math.MaxUint64, Depth: 8},
		"pages: tree 0, chains 0, ledger 0, free 0\npairs: 9223372036854775807 of 0 bytes, 1 deep\n":                             {Pairs: math.MaxInt, Depth: 1, Lost: []uint32{}, Twice: []uint32{}},
		"pages: tree 0, chains 0, ledger 0, free 0\npairs: -1 of 0 bytes, -9223372036854775808 deep\n":                           {Pairs: -1, Depth: math.MinInt},
	} {
		is(t, "pages", report.Pages(r), want)
	}
}

// Whatever stands in a name, in a key or in a body: what is told is plain, and has as many lines as there are things.
func TestAllIsPlain(t *testing.T) {
	name := all()
	q := api.Queue{Name: name, Dead: name}
	m := api.Message{Queue: name, Body: name}
	b := api.Binding{Exchange: name, Key: name, Queue: name}
	d := dump.Dump{Queues: []api.Queue{q}, Bindings: []api.Binding{b}, Messages: []api.Message{m}}
	r := broker.Reply{IDs: []uint64{1}, Lost: []uint64{1}, Dead: []uint64{1}, List: []api.Message{m, m}}
	for what, w := range map[string]struct {
		text  string
		lines int
	}{
		"a queue":   {report.Queue(q), 0},
		"a message": {report.Message(m), 0},
		"a reply":   {report.Reply(r), 2},
		"a dump":    {report.Dump(d), 4},
		"lines":     {report.Lines([]api.Queue{q, q, q}, report.Queue), 3},
		"pages":     {report.Pages(check.Report{Lost: []uint32{10}}), 2},
	} {
		plain(t, what, w.text)
		is(t, what, strings.Count(w.text, "\n"), w.lines)
	}
}
