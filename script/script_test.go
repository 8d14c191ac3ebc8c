package script_test

import (
	"fmt"
	"math"
	"slices"
	"strings"
	"testing"

	"taproot/api"
	"taproot/command"
	"taproot/script"
)

func TestQuote(t *testing.T) {
	for s, want := range map[string]string{
		"":              `""`,
		"a":             `"a"`,
		"a b":           `"a b"`,
		`"`:             `"\""`,
		`\`:             `"\\"`,
		"\n":            `"\n"`,
		`\n`:            `"\\n"`,
		`\"`:            `"\\\""`,
		`\x00`:          `"\\x00"`,
		"\x00":          `"\x00"`,
		"\x1f \x7f":     `"\x1f \x7f"`,
		"\r\t":          `"\x0d\x09"`,
		"\xff\xfe\xAB~": `"\xff\xfe\xab~"`,
		"é":             `"\xc3\xa9"`,
		"'`":            "\"'`\"",
		"\x0a1":         `"\n1"`,
	} {
		is(t, "Quote", script.Quote(s), want)
	}
	for b := range 256 {
		want := string(rune(b))
		switch {
		case b == '"':
			want = `\"`
		case b == '\\':
			want = `\\`
		case b == 10:
			want = `\n`
		case b < 32 || b > 126:
			want = fmt.Sprintf(`\x%02x`, b)
		}
		one := string([]byte{byte(b)})
		is(t, "a byte", script.Quote(one), `"`+want+`"`)
		is(t, "among others", script.Quote("a"+one+"0"+one), `"a`+want+"0"+want+`"`)
	}
	long := strings.Repeat("\x00", 70000)
	is(t, "long", script.Quote(long), `"`+strings.Repeat(`\x00`, 70000)+`"`)
}

func TestKinds(t *testing.T) {
	got := []int{script.Commit, script.Snap, script.Look, script.Close, script.Fuse, script.Crash}
	alike(t, "the kinds", got, []int{14, 15, 16, 17, 18, 19})
}

func TestPrintAndParse(t *testing.T) {
	seen := map[int]bool{}
	for text, l := range lines() {
		printed(t, l, text)
		parsed(t, text+"\n", l)
		refused(t, text, 1)
		seen[l.Kind] = true
	}
	is(t, "each kind", len(seen), 19)
}

func TestParseOfSeveral(t *testing.T) {
	parsed(t, "")
	var all []script.Line
	text := ""
	for s, l := range lines() {
		all = append(all, l)
		text += s + "\n"
	}
	parsed(t, text, all...)
	refused(t, text[:len(text)-1], len(all))
	refused(t, text+"\n", len(all)+1)
	refused(t, text+"none\n"+text, len(all)+1)
	refused(t, "\n"+text, 1)
	parsed(t, "commit\ncommit\ncommit\n", script.Line{Kind: 14}, script.Line{Kind: 14}, script.Line{Kind: 14})
}

// A text of any bytes is one in each place.
func TestTextsOfAnyBytes(t *testing.T) {
	every := ""
	for b := range 256 {
		every += string([]byte{byte(b)})
	}
	for _, s := range []string{every, every[128:] + every[:128], `"`, `\`, `""`, `\\"\`, " ", "  ", `" "`, "\n", "\r\n", `a" 0`, "é", "\xc3", "'", "`", "`a`", `\x41`} {
		c := command.Command{Kind: command.Publish, Key: s, Body: s, Time: 1}
		text := `publish "" ` + script.Quote(s) + " " + script.Quote(s) + " 1"
		printed(t, of(c), text)
		parsed(t, text+"\n", of(c))
		c = command.Command{Kind: command.Bind, Binding: api.Binding{Exchange: s[:min(len(s), 32)], Key: s, Queue: s[:min(len(s), 32)]}}
		text = "bind " + script.Quote(c.Binding.Exchange) + " 0 " + script.Quote(s) + " " + script.Quote(c.Binding.Queue)
		printed(t, of(c), text)
		parsed(t, text+"\n", of(c))
		l := script.Line{Kind: script.Look, Queue: s} // of a look's name no length is asked
		text = "look 0 " + script.Quote(s) + " 0 0"
		printed(t, l, text)
		parsed(t, text+"\n", l)
	}
}

// Each byte may stand in one way alone.
func TestOtherWaysToQuote(t *testing.T) {
	for _, s := range []string{
		`"\x61"`, `"\x22"`, `"\x5c"`, `"\x0a"`, `"\x20"`, `"\x7e"`, `"\xFF"`, `"\xfF"`, `"\Xff"`, `"\x0"`, `"\x"`, `"\x0g"`, `"\x 0"`,
		`"\t"`, `"\r"`, `"\a"`, `"\0"`, `"\000"`, `"\141"`, `"\u0061"`, `"\u00e9"`, `"\U00000061"`, `"\'"`, `"\ "`, `"\N"`, `"\q"`, `"\"`,
		"\"\t\"", "\"\x00\"", "\"\x7f\"", "\"\x80\"", "\"é\"", "\"\r\"", "\"\n\"",
		`"`, `"a`, `a"`, `a`, ``, `'a'`, "`a`", `""a`, `"a""`, `"a" `, ` "a"`, `"a""b"`, `""""`, `"""`, `yes`, `0`,
	} {
		refused(t, "drop "+s+"\n", 1)
		refused(t, "publish "+s+` "" "" 0`+"\n", 1)
		refused(t, `publish "" `+s+` "" 0`+"\n", 1)
		refused(t, `publish "" "" `+s+" 0\n", 1)
		refused(t, "look 0 "+s+" 0 0\n", 1)
		refused(t, `declare "a" 0 0 0 `+s+"\n", 1)
	}
}

func TestOtherWaysToTellNumbers(t *testing.T) {
	bad := []string{"", "00", "01", "+1", "-0", "-00", "-01", "+0", "--1", "1.0", "1e3", "0x1", "0b1", "0o1", "1_000", "1 ", " 1", "a", "-", "yes", `"1"`, "１", "1\t", "1\r", "1,", "१"}
	for _, s := range append(slices.Clone(bad), "-1", "18446744073709551616", "99999999999999999999999", "-18446744073709551616") {
		refused(t, "tick "+s+"\n", 1)
		refused(t, `look 0 "a" `+s+" 0\n", 1)
		refused(t, `browse "a" `+s+" 0\n", 1)
		refused(t, `browse "a" 0 `+s+"\n", 1)
		refused(t, `declare "a" 0 `+s+` 0 ""`+"\n", 1)
	}
	for _, s := range append(slices.Clone(bad), "-1", "4294967296", "4294967295000", "18446744073709551616") {
		refused(t, `declare "a" `+s+` 0 0 ""`+"\n", 1)
		refused(t, `declare "a" 0 0 `+s+` ""`+"\n", 1)
	}
	for _, s := range append(slices.Clone(bad), "-1", "256", "257", "512", "4294967296", "9223372036854775808") {
		refused(t, `bind "x" `+s+` "k" "a"`+"\n", 1)
		refused(t, `unbind "x" `+s+` "k" "a"`+"\n", 1)
	}
	for _, s := range append(slices.Clone(bad), "9223372036854775808", "-9223372036854775809", "18446744073709551615", "-99999999999999999999") {
		refused(t, "close "+s+"\n", 1)
		refused(t, "fuse "+s+"\n", 1)
		refused(t, "look "+s+` "a" 0 0`+"\n", 1)
		refused(t, `look 0 "a" 0 `+s+"\n", 1)
	}
}

func TestOtherTruths(t *testing.T) {
	for _, s := range []string{"", "true", "false", "Yes", "YES", "No", "y", "n", "0", "1", `"yes"`, "yes ", " no", "nono", "yess", "no\r"} {
		refused(t, `nack "a" 1 1 `+s+"\n", 1)
	}
}

// What isn't just as it is printed is none: a byte less, more, twice, or another one.
func TestTurnedLines(t *testing.T) {
	for text := range lines() {
		for i := range len(text) + 1 {
			var turned []string
			for _, c := range []string{" ", "\t", "\r", "\"", "\\", "0", "-", "a", "\n", "\x00", "\xff"} {
				turned = append(turned, text[:i]+c+text[i:])
				if i < len(text) {
					turned = append(turned, text[:i]+text[i+1:], text[:i]+c+text[i+1:])
				}
			}
			for _, s := range turned {
				l, at, e := script.Parse(s + "\n")
				if e != api.OK {
					is(t, "an error", e, api.ErrSyntax)
					is(t, "its line", at >= 1 && at <= 2, true)
					is(t, "beside it", len(l), 0)
					continue
				}
				is(t, "no error", at, 0)
				again := ""
				for _, x := range l {
					p, e := script.Print(x)
					is(t, "it is printed", e, api.OK)
					again += p + "\n"
				}
				is(t, "so", again, s+"\n")
			}
		}
	}
}

func TestOtherLines(t *testing.T) {
	for _, s := range []string{
		"", " ", "none", "Commit", "COMMIT", "commit ", " commit", "commit 0", `commit ""`, "snap 1", "crash 0", "crash\r", "commit\x00", "open", "com", "commits", "14", "0",
		"tick", "tick ", "tick  1", "tick 1 ", "tick 1 2", " tick 1", "tick\t1", `tick "1"`, "tick1",
		"drop", "drop ", `drop"a"`, `drop  "a"`, `drop "a" "b"`, `drop "a" 0`, `Drop "a"`,
		"close", "close ", "close 1 2", `close "1"`, "fuse", "fuse 1 1",
		"look", `look 1`, `look 1 "a"`, `look 1 "a" 2`, `look 1 "a" 2 3 4`, `look "a" 1 2 3`, `look 1 "a"2 3`, `look 1"a" 2 3`,
		`publish "" "a" "hi"`, `publish "" "a" "hi" `, `publish "" "a" "hi" 0 0`, `publish "" "a" 0`, `publish "" "a""hi" 0`, `publish "" "a" "hi"0`, `publish  "" "a" "hi" 0`,
		`nack "a" 1 1`, `nack "a" 1 yes`, `nack "a" 1 1 yes no`, `nack "a" 1 1yes`, `ack "a" 1`, `ack "a" 1 1 yes`, `extend "a" 1 1`, `stat`, `purge`, `browse "a" 1`,
		`declare "a" 1 2 3`, `declare "a" 1 2 "d" 3`, `declare "a" 1 2 3 "d" 4`, `bind "x" "k" "a"`, `bind "x" 1 "a" `, `unbind "x" 1 "k"`,
	} {
		refused(t, s+"\n", 1)
		refused(t, "commit\ncommit\n"+s+"\ncommit\n", 3)
	}
}

// What layer 24 writes not, no line prints as.
func TestTextsThatAreTooLong(t *testing.T) {
	name, key := strings.Repeat("n", 33), strings.Repeat("k", 513)
	for _, s := range []string{
		`declare "%s" 0 0 0 ""`, `declare "" 0 0 0 "%s"`, `drop "%s"`, `bind "%s" 1 "" ""`, `bind "" 1 "" "%s"`, `unbind "%s" 1 "" ""`, `unbind "" 1 "" "%s"`,
		`publish "%s" "" "" 0`, `deliver "%s" 1 1`, `ack "%s" 1 1`, `nack "%s" 1 1 no`, `extend "%s" 1 1 1`, `purge "%s"`, `stat "%s"`, `browse "%s" 1 1`,
	} {
		refused(t, fmt.Sprintf(s, name)+"\n", 1)
		l, _, e := script.Parse(fmt.Sprintf(s, name[1:]) + "\n")
		is(t, "at most 32 bytes", e == api.OK && len(l) == 1, true)
		l, _, e = script.Parse(fmt.Sprintf(s, strings.Repeat(`\xff`, 32)) + "\n")
		is(t, "they are counted as what they stand for", e == api.OK && len(l) == 1, true)
	}
	for _, s := range []string{`bind "" 1 "%s" ""`, `unbind "" 1 "%s" ""`, `publish "" "%s" "" 0`} {
		refused(t, fmt.Sprintf(s, key)+"\n", 1)
		l, _, e := script.Parse(fmt.Sprintf(s, key[1:]) + "\n")
		is(t, "at most 512 bytes", e == api.OK && len(l) == 1, true)
	}
	for _, s := range []string{`publish "" "" "%s" 0`, `look 0 "%s" 0 0`} {
		l, _, e := script.Parse(fmt.Sprintf(s, strings.Repeat("b", 19900)) + "\n")
		is(t, "a long text", e == api.OK && len(l) == 1, true)
	}
}

func TestTheFirstErrorIsTold(t *testing.T) {
	for n := range 5 {
		ahead := strings.Repeat("tick 1\n", n)
		refused(t, ahead+"tick\ntick\n", n+1)
		refused(t, ahead+"tick\ntick 1", n+1)
		refused(t, ahead+"tick 1", n+1)
		refused(t, ahead+"tick 1\r\n", n+1)
		refused(t, ahead+"\n", n+1)
		refused(t, ahead+" ", n+1)
		refused(t, ahead+"tick \"\n\"\n", n+1)
	}
}

func TestTooLong(t *testing.T) {
	for _, s := range []string{"commit\n", "snap\n", "tick 1\n"} {
		n := 20000 / len(s)
		text := strings.Repeat(s, n)
		l, at, e := script.Parse(text)
		is(t, "not too long", e == api.OK && at == 0 && len(l) == n, true)
	}
	fits := `publish "" "" "` + strings.Repeat("b", 20000-len(`publish "" "" "" 0`)-1) + "\" 0\n"
	is(t, "20000 bytes", len(fits), 20000)
	l, at, e := script.Parse(fits)
	is(t, "just fits", e == api.OK && at == 0 && len(l) == 1, true)
	refused(t, strings.Repeat("x", 20000), 1)
	refused(t, strings.Repeat("\n", 20000), 1)
	for _, s := range []string{fits + "\n", fits + fits, "x" + fits, strings.Repeat("x", 20001), strings.Repeat("\n", 20001), strings.Repeat("commit\n", 10000)} {
		l, at, e := script.Parse(s)
		is(t, "too long", e, api.ErrLong)
		is(t, "at line 0", at, 0)
		is(t, "no lines", len(l), 0)
	}
}

func TestNoSuchKind(t *testing.T) {
	for _, kind := range []int{0, -1, 20, 21, 255, 256 + 14, 1<<32 + 5, math.MaxInt, math.MinInt} {
		unprinted(t, "no such kind", script.Line{Kind: kind}, api.ErrForm)
		unprinted(t, "its command has it too", script.Line{Kind: kind, Command: command.Command{Kind: kind}}, api.ErrForm)
		unprinted(t, "its command has one", script.Line{Kind: kind, Command: queue(2, "a")}, api.ErrForm)
		unprinted(t, "it tells something", script.Line{Kind: kind, N: 1, Queue: "a"}, api.ErrForm)
	}
}

// A command's line has its kind twice, and nothing beside it.
func TestCommandsOfOtherKinds(t *testing.T) {
	for _, c := range commands() {
		for kind := -1; kind <= 21; kind++ {
			if kind != c.Kind {
				unprinted(t, "another kind", script.Line{Kind: kind, Command: c}, api.ErrForm)
			}
		}
		other := c
		for _, kind := range []int{0, -1, 14, 19, 99} {
			other.Kind = kind
			unprinted(t, "a command of no kind", script.Line{Kind: c.Kind, Command: other}, api.ErrForm)
		}
		unprinted(t, "no command", script.Line{Kind: c.Kind}, api.ErrForm)
	}
}

// fills make one part of a line another one than zero.
func fills() map[string]func(*script.Line) {
	return map[string]func(*script.Line){
		"N":     func(l *script.Line) { l.N = -1 },
		"Most":  func(l *script.Line) { l.Most = 1 },
		"From":  func(l *script.Line) { l.From = 1 },
		"Queue": func(l *script.Line) { l.Queue = "\x00" },
	}
}

func TestWhatALineDoesntTell(t *testing.T) {
	for _, l := range lines() {
		tells := map[int][]string{16: {"N", "Most", "From", "Queue"}, 17: {"N"}, 18: {"N"}}[l.Kind]
		for name, fill := range fills() {
			x := l
			fill(&x)
			s, e := script.Print(x)
			if slices.Contains(tells, name) {
				is(t, name, e, api.OK)
				parsed(t, s+"\n", x)
				continue
			}
			is(t, name, e, api.ErrForm)
			is(t, name, s, "")
		}
		if l.Kind <= 13 {
			continue
		}
		for _, c := range []command.Command{{Kind: l.Kind}, {Kind: 1}, {Kind: -1}, {Body: "b"}, {Dead: true}, {Time: 1}, {Queue: api.Queue{Dead: "d"}}, {Binding: api.Binding{Kind: 1}}} {
			x := l
			x.Command = c
			unprinted(t, "a command beside it", x, api.ErrForm)
		}
	}
}

func TestPrintsErrors(t *testing.T) {
	long := strings.Repeat("n", 33)
	for what, c := range map[string]command.Command{
		"a name":      queue(command.Drop, long),
		"a Dead":      {Kind: command.Declare, Queue: api.Queue{Dead: long}},
		"a key":       {Kind: command.Publish, Key: strings.Repeat("k", 513)},
		"a body":      {Kind: command.Publish, Body: strings.Repeat("b", 1<<15+1)},
		"a binding":   {Kind: command.Bind, Binding: api.Binding{Queue: long}},
		"an exchange": {Kind: command.Unbind, Binding: api.Binding{Exchange: long}},
	} {
		unprinted(t, what, of(c), api.ErrLong)
		for name, fill := range fills() {
			x := of(c)
			fill(&x)
			unprinted(t, name+" ahead of "+what, x, api.ErrForm)
		}
		x := of(c)
		x.Kind = command.Browse
		unprinted(t, "another kind ahead of "+what, x, api.ErrForm)
		if c.Kind != command.Bind && c.Kind != command.Unbind {
			c.Binding.Kind = 1
			unprinted(t, "what a command doesn't tell", of(c), api.ErrForm)
		}
	}
	for _, kind := range []int{-1, 256, math.MaxInt, math.MinInt} {
		unprinted(t, "a binding's kind", of(command.Command{Kind: command.Bind, Binding: api.Binding{Kind: kind}}), api.ErrForm)
		unprinted(t, "a binding's kind", of(command.Command{Kind: command.Unbind, Binding: api.Binding{Kind: kind, Queue: long}}), api.ErrForm)
	}
	body := strings.Repeat("\x80", 1<<15)
	printed(t, of(command.Command{Kind: command.Publish, Body: body}), `publish "" "" "`+strings.Repeat(`\x80`, 1<<15)+`" 0`)
	name := strings.Repeat("q", 70000)
	printed(t, script.Line{Kind: script.Look, Queue: name}, `look 0 "`+name+`" 0 0`)
}
