package diff

import (
	"taproot/api"
	"taproot/octet"
)

// most is how many changes may be read.
const most = 4096

// The bits of the byte that tells whether there was something, and whether there is.
const (
	had = 1
	has = 2
)

// codec is how a change is bytes.
func codec() octet.Codec[Change] { return octet.Codec[Change]{Put: put, Get: get} }

// Bytes: changes'.
func Bytes(l []Change) string { return codec().List(l) }

// Parse: the changes that bytes are.
func Parse(s string) ([]Change, api.Errno) { return codec().ReadList(s, most) }

// put is a change's bytes.
func put(c Change) string {
	bits := uint8(0)
	if c.Had {
		bits |= had
	}
	if c.Has {
		bits |= has
	}
	return octet.Text(c.Key) + octet.One(bits) + octet.Text(c.Was) + octet.Text(c.Now)
}

// get is the change that stands next.
func get(r *octet.Reader) Change {
	key, bits := text(r), r.One()
	if bits > had|has {
		r.Fail(api.ErrForm)
	}
	return Change{Key: key, Had: bits&had != 0, Has: bits&has != 0, Was: text(r), Now: text(r)}
}

// text is the one that stands next.
func text(r *octet.Reader) string { return r.Text(api.MaxValue) }
