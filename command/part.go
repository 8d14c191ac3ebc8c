package command

import (
	"taproot/api"
	"taproot/octet"
)

// maxKey is how many bytes a key may have, a binding's or a message's. (Whether it is one, other layers ask.)
const maxKey = 512

// forms are what the kinds tell, in its order: a sign for each part.
var forms = [...]string{
	Declare: "qmlrd",
	Drop:    "q",
	Bind:    "EKPQ",
	Unbind:  "EKPQ",
	Publish: "ekbt",
	Deliver: "qnt",
	Ack:     "qio",
	Nack:    "qiox",
	Extend:  "qiot",
	Purge:   "q",
	Tick:    "t",
	Stat:    "q",
	Browse:  "qin",
}

// part is one of a command, and how it is bytes.
type part struct {
	hand func(to, from *Command)           // to has what from has
	long func(c *Command) bool             // has it more bytes than it may?
	put  func(c *Command) string           // its bytes
	get  func(c *Command, r *octet.Reader) // c has what stands next
}

// field is what a sign stands for.
func field(sign rune) part {
	switch sign {
	case 'q':
		return text(api.MaxName, func(c *Command) *string { return &c.Queue.Name })
	case 'm':
		return four(func(c *Command) *uint32 { return &c.Queue.Most })
	case 'l':
		return eight(func(c *Command) *uint64 { return &c.Queue.TTL })
	case 'r':
		return four(func(c *Command) *uint32 { return &c.Queue.Tries })
	case 'd':
		return text(api.MaxName, func(c *Command) *string { return &c.Queue.Dead })
	case 'E':
		return text(api.MaxName, func(c *Command) *string { return &c.Binding.Exchange })
	case 'K':
		return sized(func(c *Command) *int { return &c.Binding.Kind }, putKind, getKind)
	case 'P':
		return text(maxKey, func(c *Command) *string { return &c.Binding.Key })
	case 'Q':
		return text(api.MaxName, func(c *Command) *string { return &c.Binding.Queue })
	case 'e':
		return text(api.MaxName, func(c *Command) *string { return &c.Exchange })
	case 'k':
		return text(maxKey, func(c *Command) *string { return &c.Key })
	case 'b':
		return text(api.MaxBody, func(c *Command) *string { return &c.Body })
	case 'i':
		return eight(func(c *Command) *uint64 { return &c.ID })
	case 'o':
		return eight(func(c *Command) *uint64 { return &c.Token })
	case 'n':
		return eight(func(c *Command) *uint64 { return &c.N })
	case 't':
		return eight(func(c *Command) *uint64 { return &c.Time })
	default: // x
		return sized(func(c *Command) *bool { return &c.Dead }, putBool, getBool)
	}
}

// sized is a part that always has as many bytes.
func sized[T any](at func(*Command) *T, put func(T) string, get func(*octet.Reader) T) part {
	return part{
		hand: func(to, from *Command) { *at(to) = *at(from) },
		long: func(*Command) bool { return false },
		put:  func(c *Command) string { return put(*at(c)) },
		get:  func(c *Command, r *octet.Reader) { *at(c) = get(r) },
	}
}

// text is one of at most so many bytes.
func text(most int, at func(*Command) *string) part {
	p := sized(at, octet.Text, func(r *octet.Reader) string { return r.Text(most) })
	p.long = func(c *Command) bool { return len(*at(c)) > most }
	return p
}

// four is a number of four bytes.
func four(at func(*Command) *uint32) part { return sized(at, octet.Four, (*octet.Reader).Four) }

// eight is a number of eight.
func eight(at func(*Command) *uint64) part { return sized(at, octet.Eight, (*octet.Reader).Eight) }

// putKind is a binding's kind in one byte.
func putKind(kind int) string { return octet.One(uint8(kind)) }

// getKind is the kind that stands next.
func getKind(r *octet.Reader) int { return int(r.One()) }

// putBool is 1 for what is so, else 0.
func putBool(so bool) string {
	if so {
		return octet.One(1)
	}
	return octet.One(0)
}

// getBool is what stands next. Another byte isn't taken for one of the two, or two texts would be read as one command.
func getBool(r *octet.Reader) bool {
	n := r.One()
	if n > 1 {
		r.Fail(api.ErrForm)
	}
	return n == 1
}
