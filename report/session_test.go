package report_test

import (
	"strings"
	"testing"

	"taproot/api"
	"taproot/check"
	"taproot/dump"
	"taproot/report"
	"taproot/script"
)

// What a script did to a broker, told from first to last.
func TestAScript(t *testing.T) {
	lines, _, e := script.Parse(`declare "dead" 0 0 0 ""
declare "a" 2 9 1 "dead"
bind "x" 3 "k.#" "a"
publish "x" "k.l" "one" 0
publish "" "a" "two\n" 4
publish "" "a" "three" 0
deliver "a" 1 5
nack "a" 2 1 yes
commit
tick 3
browse "a" 0 9
drop "none"
commit
tick 3
commit
`)
	is(t, "Parse", e, api.OK)
	h, e := script.Start(20)
	is(t, "Start", e, api.OK)
	var told strings.Builder
	for _, l := range lines {
		if a := h.Do(l); l.Kind == script.Commit {
			told.WriteString(report.Lines(a.Replies, report.Reply))
		}
	}
	is(t, "replies", told.String(), `ok 0
ok 0
ok 0
ok 1 ids [1]
ok 1 ids [2]
ok 1 ids [3] lost [1]
ok 0
  message "a" #2 tries 1 until 4 4 bytes
ok 0 dead [2]
error 26
error 26
error 21
ok 0
`)
	d, e := dump.Of(h.Broker.Now(), h.Broker.Clock())
	is(t, "a dump", e, api.OK)
	is(t, "all that it has", report.Dump(d), `clock 3 last 3
queue "a" most 2 ttl 9 tries 1 dead "dead"
queue "dead" most 0 ttl 0 tries 0 dead ""
bind "x" topic "k.#" to "a"
message "a" #3 tries 0 until 9 5 bytes
message "dead" #2 tries 0 until never 4 bytes
`)
	r, e := check.Of(h.Broker.Store().Pager(), h.Broker.Store().Base())
	is(t, "check", e, api.OK)
	is(t, "nothing is lost, nothing twice", r.Whole(), true)
	is(t, "its pages", report.Pages(r), "pages: tree 1, chains 0, ledger 0, free 0\npairs: 7 of 216 bytes, 1 deep\n")
}
