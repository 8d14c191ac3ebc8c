package registry_test

import (
	"maps"
	"math/rand/v2"
	"slices"
	"strconv"
	"strings"
	"testing"

	"taproot/api"
	"taproot/registry"
)

func TestNew(t *testing.T) {
	held(t, "nothing", registry.New())
	held(t, "pairs, rising", registry.New(api.Pair{Key: "b", Value: "2"}, api.Pair{Key: "a", Value: "1"}), api.Pair{Key: "a", Value: "1"}, api.Pair{Key: "b", Value: "2"})
	s := registry.New(api.Pair{Key: "a", Value: "1"}, api.Pair{Key: "", Value: "3"}, api.Pair{Key: "a", Value: "2"})
	alike(t, "of one key the last", pairs(t, s), []api.Pair{{Value: "3"}, {Key: "a", Value: "2"}})
	value, there, e := s.Get("a")
	is(t, "got", value == "2" && there && e == api.OK, true)
	long := api.Pair{Key: strings.Repeat("k", api.MaxKey+1), Value: strings.Repeat("v", api.MaxValue+1)}
	held(t, "a shelf of these pairs, however long they are", registry.New(long), long)
}

func TestShelf(t *testing.T) {
	s := registry.New(api.Pair{Key: "b", Value: "2"})
	is(t, "put", s.Put("a", "1"), api.OK)
	is(t, "put", s.Put("", ""), api.OK)
	is(t, "put instead", s.Put("b", "3"), api.OK)
	held(t, "what was put", s, api.Pair{}, api.Pair{Key: "a", Value: "1"}, api.Pair{Key: "b", Value: "3"})
	value, there, e := s.Get("")
	is(t, "an empty value", value == "" && there && e == api.OK, true)
	value, there, e = s.Get("c")
	is(t, "none", value == "" && !there && e == api.OK, true)
	there, e = s.Cut("a")
	is(t, "cut", there && e == api.OK, true)
	there, e = s.Cut("a")
	is(t, "cut again", !there && e == api.OK, true)
	value, there, e = s.Get("a")
	is(t, "gone", value == "" && !there && e == api.OK, true)
	held(t, "what is left", s, api.Pair{}, api.Pair{Key: "b", Value: "3"})
}

func TestShelfRange(t *testing.T) {
	s := registry.New(api.Pair{Key: "a"}, api.Pair{Key: "a\x00"}, api.Pair{Key: "b"}, api.Pair{Key: "c"}, api.Pair{Key: "\xff"}, api.Pair{})
	bounds := map[[2]string]string{
		{"", ""}: ",a,a\x00,b,c,\xff", {"a", ""}: "a,a\x00,b,c,\xff", {"a", "c"}: "a,a\x00,b", {"a", "a\x00"}: "a", {"", "b"}: ",a,a\x00",
		{"aa", "bb"}: "b", {"\xff", ""}: "\xff", {"\xff\x00", ""}: "", {"b", "b"}: "", {"c", "a"}: "", {"d", "e"}: "", {"a\x00\x00", "c"}: "b",
	}
	for x, want := range bounds {
		if want == "" {
			is(t, "nothing", len(all(t, s.Range(x[0], x[1]))), 0)
			continue
		}
		r := s.Range(x[0], x[1])
		for range 2 {
			var keys []string
			for _, p := range all(t, r) {
				keys = append(keys, p.Key)
			}
			is(t, "from "+strconv.Quote(x[0])+" to "+strconv.Quote(x[1]), strings.Join(keys, ","), want)
		}
	}
	n := 0
	for range s.Range("", "") {
		n++
		if n == 2 {
			break
		}
	}
	is(t, "left", n, 2)
}

// A row goes through what is there then: what is changed behind the place where it is, or ahead of it.
func TestShelfRangeOfWhatIsThereThen(t *testing.T) {
	s := registry.New(api.Pair{Key: "a"}, api.Pair{Key: "c"}, api.Pair{Key: "d"})
	r := s.Range("", "")
	s.Put("b", "2")
	var seen []string
	for p := range r {
		seen = append(seen, p.Key+p.Value)
		if p.Key == "b" {
			s.Cut("a")
			s.Cut("c")
			s.Put("d", "4")
			s.Put("e", "5")
		}
	}
	alike(t, "seen", seen, []string{"a", "b2", "d4", "e5"})
}

func TestShelfErrors(t *testing.T) {
	key, value := strings.Repeat("k", api.MaxKey), strings.Repeat("v", api.MaxValue)
	s := registry.New()
	is(t, "the longest", s.Put(key, value), api.OK)
	is(t, "a key that is too long", s.Put(key+"k", ""), api.ErrLong)
	is(t, "a value that is too long", s.Put("a", value+"v"), api.ErrLong)
	is(t, "one for one that is there", s.Put(key, value+"v"), api.ErrLong)
	held(t, "nothing but the longest", s, api.Pair{Key: key, Value: value})
	for _, k := range []string{key + "k", strings.Repeat("k", 100000)} {
		got, there, e := s.Get(k)
		is(t, "none of a key that is too long", got == "" && !there && e == api.OK, true)
		there, e = s.Cut(k)
		is(t, "none to cut", !there && e == api.OK, true)
		is(t, "none behind it", len(all(t, s.Range(k, ""))), 0)
	}
}

func TestNoShelf(t *testing.T) {
	var none *registry.Shelf
	for range 2 {
		is(t, "put", none.Put("a", "1"), api.OK)
		is(t, "put of a key that is too long", none.Put(strings.Repeat("k", api.MaxKey+1), ""), api.ErrLong)
		value, there, e := none.Get("a")
		is(t, "get", value == "" && !there && e == api.OK, true)
		there, e = none.Cut("a")
		is(t, "cut", !there && e == api.OK, true)
		is(t, "range", len(all(t, none.Range("", ""))), 0)
	}
	var bare registry.Shelf
	there, e := bare.Cut("a")
	is(t, "cut of a bare one", !there && e == api.OK, true)
	held(t, "a bare one", &bare)
	is(t, "put", bare.Put("a", "1"), api.OK)
	held(t, "a bare one is an empty one", &bare, api.Pair{Key: "a", Value: "1"})
}

func TestShelfKeepsNoList(t *testing.T) {
	room := []api.Pair{{Key: "b", Value: "2"}, {Key: "a", Value: "1"}, {Key: "spare", Value: "room"}}
	was := slices.Clone(room)
	s := registry.New(room[:2]...)
	s.Put("a", "3")
	s.Cut("b")
	alike(t, "unchanged, spare room included", room, was)
	room[1] = api.Pair{Key: "x"}
	held(t, "not kept", s, api.Pair{Key: "a", Value: "3"})
	other := registry.New(was[:2]...)
	held(t, "two shelves of one list", other, was[0], was[1])
}

// Shelves against a map, by chance.
func TestShelfByChance(t *testing.T) {
	chance := rand.New(rand.NewPCG(21, 1))
	for range 30 {
		var l []api.Pair
		model := map[string]string{}
		text := func() string { return strconv.Itoa(chance.IntN(60)) }
		for range chance.IntN(40) {
			p := api.Pair{Key: text(), Value: text()}
			l = append(l, p)
			model[p.Key] = p.Value
		}
		s := registry.New(l...)
		for range 200 {
			k, v := text(), text()
			_, had := model[k]
			switch chance.IntN(3) {
			case 0:
				is(t, "put", s.Put(k, v), api.OK)
				model[k] = v
			case 1:
				there, _ := s.Cut(k)
				is(t, "cut", there, had)
				delete(model, k)
			case 2:
				value, there, _ := s.Get(k)
				is(t, "got", there, had)
				is(t, "the value", value, model[k])
			}
			var want []api.Pair
			for _, key := range slices.Sorted(maps.Keys(model)) {
				if key >= k && (v == "" || key < v) {
					want = append(want, api.Pair{Key: key, Value: model[key]})
				}
			}
			alike(t, "within bounds", all(t, s.Range(k, v)), want)
		}
	}
}
