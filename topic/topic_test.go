package topic_test

import (
	"math/rand/v2"
	"slices"
	"strings"
	"testing"

	"taproot/api"
	"taproot/topic"
)

func is[T comparable](t *testing.T, what string, got, want T) {
	t.Helper()
	if got != want {
		t.Errorf("%s: %.200v, wanted %.200v", what, got, want)
	}
}

// letters are all bytes that a word may have.
const letters = "abcdefghijklmnopqrstuvwxyzABCDEFGHIJKLMNOPQRSTUVWXYZ0123456789-_"

// words is a text of so many words.
func words(word string, n int) string {
	return strings.Join(slices.Repeat([]string{word}, n), ".")
}

func TestName(t *testing.T) {
	longest := strings.Repeat("n", api.MaxName)
	for _, s := range []string{"a", "Z", "0", "-", "_", "a-b_C9", letters[:32], letters[32:], longest} {
		is(t, "a name: "+s, topic.Name(s), true)
	}
	for _, s := range []string{"", ".", "a.b", "*", "#", "a*", " ", "a b", "a\x00", "\x00", "é", "a\xe9", "\xff", longest + "n", strings.Repeat("n", 100000)} {
		is(t, "no name: "+s, topic.Name(s), false)
	}
	for b := range 256 {
		s := string([]byte{byte(b)})
		right := strings.Contains(letters, s)
		is(t, "a byte: "+s, topic.Name(s), right)
		is(t, "a byte among others: "+s, topic.Name("a"+s+"a"), right)
		is(t, "a byte at the end: "+s, topic.Name("aa"+s), right)
		is(t, "a key of a byte: "+s, topic.Key("a."+s+".a"), right)
		is(t, "a pattern of a byte: "+s, topic.Pattern("a."+s+".a"), right || s == "*" || s == "#")
	}
}

func TestKey(t *testing.T) {
	longest := strings.Repeat("n", api.MaxName)
	for _, s := range []string{"", "a", "a.b", "a.b.c", words("w", api.MaxWords), words(longest, api.MaxWords)} {
		is(t, "a key: "+s, topic.Key(s), true)
		is(t, "a pattern, too: "+s, topic.Pattern(s), true)
	}
	for _, s := range []string{".", "..", "a.", ".a", "a..b", "a b", "a.b c", "a.\x00", "é.a", words("w", api.MaxWords+1), words("w", 100000), longest + "n", "a." + longest + "n", strings.Repeat(".", 100000)} {
		is(t, "no key: "+s, topic.Key(s), false)
		is(t, "no pattern either: "+s, topic.Pattern(s), false)
	}
	for _, s := range []string{"*", "#", "a.*", "a.#", "#.a", "*.*", "#.#", "a.*.c", words("*", api.MaxWords), words("#", api.MaxWords)} {
		is(t, "no key: "+s, topic.Key(s), false)
		is(t, "but a pattern: "+s, topic.Pattern(s), true)
	}
	for _, s := range []string{"a*", "*a", "**", "##", "*#", "a.b*", "a.##", "#.", ".*", words("*", api.MaxWords+1), words("#", api.MaxWords+1)} {
		is(t, "no key: "+s, topic.Key(s), false)
		is(t, "no pattern either: "+s, topic.Pattern(s), false)
	}
}

func TestWords(t *testing.T) {
	parts := map[string][]string{
		"":               nil,
		"a":              {"a"},
		"a.b.c":          {"a", "b", "c"},
		".":              {"", ""},
		"..":             {"", "", ""},
		"a.":             {"a", ""},
		".a":             {"", "a"},
		"a..b":           {"a", "", "b"},
		"*.#.é \x00":     {"*", "#", "é \x00"},
		words("w", 1000): slices.Repeat([]string{"w"}, 1000),
	}
	for s, want := range parts {
		row := topic.Words(s)
		for range 3 { // a row can be gone through as often as one likes
			if got := slices.Collect(row); !slices.Equal(got, want) {
				t.Errorf("the parts of %.100q: %.200q, wanted %.200q", s, got, want)
			}
		}
		n := 0
		for range row { // .. and left anywhere
			n++
			if n == 2 {
				break
			}
		}
		is(t, "as many as were asked for", n, min(2, len(want)))
		if got := slices.Collect(row); !slices.Equal(got, want) {
			t.Errorf("the parts of %.100q behind a row that was left: %.200q", s, got)
		}
	}
}

// fits is what the words say: each word of a pattern is given none, one or more of the key's.
func fits(p, k []string) bool {
	switch {
	case len(p) == 0:
		return len(k) == 0
	case p[0] == "#":
		for n := range len(k) + 1 {
			if fits(p[1:], k[n:]) {
				return true
			}
		}
		return false
	case len(k) == 0:
		return false
	}
	return (p[0] == "*" || p[0] == k[0]) && fits(p[1:], k[1:])
}

// parts is strings.Split, of the empty text nothing.
func parts(s string) []string {
	if s == "" {
		return nil
	}
	return strings.Split(s, ".")
}

// texts are all of up to so many words.
func texts(words []string, most int) []string {
	all, last := []string{""}, []string{""}
	for range most {
		var next []string
		for _, s := range last {
			for _, w := range words {
				if s == "" {
					next = append(next, w)
				} else {
					next = append(next, s+"."+w)
				}
			}
		}
		all = append(all, next...)
		last = next
	}
	return all
}

func TestMatch(t *testing.T) {
	yes := [][2]string{
		{"a.*.c", "a.b.c"}, {"a.#", "a"}, {"a.#", "a.b"}, {"a.#", "a.b.c"}, {"a.*", "a.b"}, {"", ""}, {"#", ""}, {"#.#", ""}, {"#", "a.b.c"},
		{"#.a", "a"}, {"#.a", "a.a.a"}, {"#.a.#", "b.a.b"}, {"#.a.b", "a.b.a.a.b"}, {"*.#", "a"}, {"#.*", "a.b"}, {"#.*.#", "a"}, {"a.#.b", "a.b"}, {"#.a.*.b.#", "a.a.c.b"},
		{"*", "#"}, {"#", "#.*"}, {"*", "*"}, // a key's words are taken as they are
	}
	for _, x := range yes {
		is(t, x[0]+" and "+x[1], topic.Match(x[0], x[1]), true)
	}
	no := [][2]string{
		{"a.*.c", "a.c"}, {"a.*", "a"}, {"a.*", "a.b.c"}, {"a.#", "b"}, {"a.#", ""}, {"", "a"}, {"*", ""}, {"a", ""}, {"a", "A"}, {"a", "ab"}, {"ab", "a"}, {"a", "a.a"}, {"a.a", "a"},
		{"#.a", "a.b"}, {"#.*.#", ""}, {"#.a.#.b.#", "b.a"}, {"*.*", "a"}, {"a", "*"}, {"a", "#"}, {"", "#"},
	}
	for _, x := range no {
		is(t, x[0]+" and "+x[1], topic.Match(x[0], x[1]), false)
	}
}

// All patterns and keys of up to five words, of few words.
func TestMatchOfAll(t *testing.T) {
	keys := texts([]string{"a", "b"}, 5)
	for _, p := range texts([]string{"a", "b", "*", "#"}, 5) {
		for _, k := range keys {
			if got, want := topic.Match(p, k), fits(parts(p), parts(k)); got != want {
				t.Fatalf("%s and %s: %v", p, k, got)
			}
		}
	}
}

// Texts that are no patterns and keys are held against each other part by part: empty parts, and more of them, too.
func TestMatchOfOtherTexts(t *testing.T) {
	chance := rand.New(rand.NewPCG(20, 1))
	some := []string{"", "", "a", "b", "*", "#", "**", "#a", " ", "\x00", "é"}
	text := func(most int) string {
		l := make([]string, chance.IntN(most))
		for i := range l {
			l[i] = some[chance.IntN(len(some))]
		}
		return strings.Join(l, ".")
	}
	matched := 0
	for range 200000 {
		p, k := text(9), text(12)
		if chance.IntN(2) == 0 { // one that is near the pattern
			k = strings.NewReplacer("*", "b", "#", text(3)).Replace(p)
		}
		want := fits(parts(p), parts(k))
		if got := topic.Match(p, k); got != want {
			t.Fatalf("%q and %q: %v", p, k, got)
		}
		if want {
			matched++
		}
	}
	if matched < 20000 {
		t.Errorf("only %d matched", matched)
	}
	is(t, "points alone", topic.Match("..", ".."), true)
	is(t, "a point too few", topic.Match("..", "."), false)
	is(t, "a star for an empty part", topic.Match("*.a", ".a"), true)
	is(t, "two parts of a point", topic.Match("*.*", "."), true)
	is(t, "a # for a point", topic.Match("#", "."), true)
}

// Long texts are held against each other in the end, too.
func TestMatchOfLongTexts(t *testing.T) {
	is(t, "many words", topic.Match(words("w", 200000), words("w", 200000)), true)
	is(t, "one less", topic.Match(words("w", 200000), words("w", 199999)), false)
	is(t, "many #", topic.Match(words("#", 200000), words("w", 200000)), true)
	is(t, "many # and no word", topic.Match(words("#", 200000), ""), true)
	is(t, "many # and a word that isn't there", topic.Match(words("#", 2000)+".b", words("a", 2000)), false)
	is(t, "# and words by turns", topic.Match(words("#.a", 500)+".b", words("a", 2000)), false)
}

func TestFits(t *testing.T) {
	for _, k := range []string{"", "a", "a.b", "a b", "*", ".."} {
		is(t, "direct: the same", topic.Fits(api.Direct, k, k), true)
		is(t, "direct: another", topic.Fits(api.Direct, "#", k+"c"), false)
		is(t, "direct: * is itself", topic.Fits(api.Direct, "*", k), k == "*")
		is(t, "fanout", topic.Fits(api.Fanout, "", k), true)
		is(t, "fanout: whatever the pattern is", topic.Fits(api.Fanout, "x.y", k), true)
		is(t, "topic: #", topic.Fits(api.Topic, "#", k), true)
		is(t, "topic: another", topic.Fits(api.Topic, "c.#", k), false)
		for _, kind := range []int{0, 4, -1, -3, 1 << 40, 257} {
			is(t, "of another kind", topic.Fits(kind, k, k), false)
		}
	}
	is(t, "topic: a.*", topic.Fits(api.Topic, "a.*", "a.b"), true)
	is(t, "topic: a.* and a", topic.Fits(api.Topic, "a.*", "a"), false)
}

func TestRight(t *testing.T) {
	for _, s := range []string{"", "a", "a.b", "*", "a.#", "a..b", ".", "a b", words("w", api.MaxWords), words("w", api.MaxWords+1), words("#", api.MaxWords+1)} {
		is(t, "direct: "+s, topic.Right(api.Direct, s), topic.Key(s))
		is(t, "fanout: "+s, topic.Right(api.Fanout, s), s == "")
		is(t, "topic: "+s, topic.Right(api.Topic, s), topic.Pattern(s))
		for _, kind := range []int{0, 4, -1, -3, 1 << 40, 257} {
			is(t, "of another kind: "+s, topic.Right(kind, s), false)
		}
	}
	is(t, "direct: a key", topic.Right(api.Direct, "a.b"), true)
	is(t, "direct: a pattern", topic.Right(api.Direct, "a.*"), false)
	is(t, "topic: a pattern", topic.Right(api.Topic, "a.*"), true)
	is(t, "topic: none", topic.Right(api.Topic, "a.**"), false)
}

// What follows, of keys by chance.
func TestWhatFollows(t *testing.T) {
	chance := rand.New(rand.NewPCG(20, 3))
	for range 5000 {
		l := make([]string, chance.IntN(api.MaxWords+1))
		stars := slices.Clone(l)
		for i := range l {
			word := make([]byte, 1+chance.IntN(api.MaxName))
			for j := range word {
				word[j] = letters[chance.IntN(len(letters))]
			}
			l[i], stars[i] = string(word), "*"
		}
		key, pattern := strings.Join(l, "."), strings.Join(stars, ".")
		is(t, "a key", topic.Key(key), true)
		is(t, "a key matches itself", topic.Match(key, key), true)
		is(t, "# matches all", topic.Match("#", key), true)
		is(t, "a pattern with a * for each word", topic.Match(pattern, key), true)
		is(t, "one with a * more", topic.Match(strings.Trim(pattern+".*", "."), key), false)
	}
}
