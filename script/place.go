package script

import (
	"strconv"
	"strings"

	"taproot/command"
)

// The truths.
const (
	yes = "yes"
	no  = "no"
)

// hex are the digits of base sixteen.
const hex = "0123456789abcdef"

// Quote: a text between quotation marks.
func Quote(s string) string {
	var b strings.Builder
	b.WriteByte('"')
	for i := range len(s) {
		switch c := s[i]; {
		case c == '"' || c == '\\':
			b.WriteByte('\\')
			b.WriteByte(c)
		case c == '\n':
			b.WriteString(`\n`)
		case c < ' ' || c > '~':
			b.WriteString(`\x`)
			b.WriteByte(hex[c>>4])
			b.WriteByte(hex[c&15])
		default:
			b.WriteByte(c)
		}
	}
	b.WriteByte('"')
	return b.String()
}

// places are where all that stands that a line tells, in its order.
func places(l *Line) []any {
	c := &l.Command
	q, b := &c.Queue, &c.Binding
	switch l.Kind {
	case command.Declare:
		return []any{&q.Name, &q.Most, &q.TTL, &q.Tries, &q.Dead}
	case command.Drop, command.Purge, command.Stat:
		return []any{&q.Name}
	case command.Bind, command.Unbind:
		return []any{&b.Exchange, &b.Kind, &b.Key, &b.Queue}
	case command.Publish:
		return []any{&c.Exchange, &c.Key, &c.Body, &c.Time}
	case command.Deliver:
		return []any{&q.Name, &c.N, &c.Time}
	case command.Ack:
		return []any{&q.Name, &c.ID, &c.Token}
	case command.Nack:
		return []any{&q.Name, &c.ID, &c.Token, &c.Dead}
	case command.Extend:
		return []any{&q.Name, &c.ID, &c.Token, &c.Time}
	case command.Tick:
		return []any{&c.Time}
	case command.Browse:
		return []any{&q.Name, &c.ID, &c.N}
	case Look:
		return []any{&l.N, &l.Queue, &l.From, &l.Most}
	case Close, Fuse:
		return []any{&l.N}
	}
	return nil
}

// shown is what stands in a place, as text.
func shown(at any) string {
	switch at := at.(type) {
	case *string:
		return Quote(*at)
	case *uint32:
		return strconv.FormatUint(uint64(*at), 10)
	case *uint64:
		return strconv.FormatUint(*at, 10)
	case *int:
		return strconv.Itoa(*at)
	case *int64:
		return strconv.FormatInt(*at, 10)
	case *bool:
		if *at {
			return yes
		}
	}
	return no
}

// guess lays what a text begins with into a place, and answers what is behind it. What can't be read is read as anything: it isn't what the place shows then.
func guess(at any, s string) string {
	text, rest := next(s)
	switch at := at.(type) {
	case *string:
		*at, _ = strconv.Unquote(text)
	case *uint32:
		n, _ := strconv.ParseUint(text, 10, 32)
		*at = uint32(n)
	case *uint64:
		*at, _ = strconv.ParseUint(text, 10, 64)
	case *int:
		*at, _ = strconv.Atoi(text)
	case *int64:
		*at, _ = strconv.ParseInt(text, 10, 64)
	case *bool:
		*at = text == yes
	}
	return rest
}

// next is what stands between one blank and the next one that isn't in a quoted text, and all behind it.
func next(s string) (string, string) {
	s = strings.TrimPrefix(s, " ")
	if text, err := strconv.QuotedPrefix(s); err == nil {
		return text, s[len(text):]
	}
	text, _, _ := strings.Cut(s, " ")
	return text, s[len(text):]
}
