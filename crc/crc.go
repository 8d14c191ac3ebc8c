// Package crc is layer 1: see shared/doc/01-crc.md.
package crc

// polynomial is that of CRC-32 (IEEE), reflected.
const polynomial = 0xedb88320

// Table is what bytes do to a sum.
type Table [256]uint32

// Make: the table.
func Make() Table {
	var t Table
	for i := range t {
		n := uint32(i)
		for range 8 {
			n = step(n)
		}
		t[i] = n
	}
	return t
}

// step takes a number one bit on.
func step(n uint32) uint32 {
	if n&1 == 1 {
		return n>>1 ^ polynomial
	}
	return n >> 1
}

// Add: a sum that goes on.
func (t *Table) Add(sum uint32, s string) uint32 {
	if t == nil {
		made := Make()
		t = &made
	}
	sum = ^sum
	for i := range len(s) {
		sum = t[byte(sum)^s[i]] ^ sum>>8
	}
	return ^sum
}

// Of: a text's sum.
func (t *Table) Of(s string) uint32 { return t.Add(0, s) }

// Summer sums things by their bytes.
type Summer[T any] struct {
	table *Table
	bytes func(T) string
}

// Over: one. It has a table of its own: what is handed in may be changed later.
func Over[T any](t *Table, bytes func(T) string) Summer[T] {
	own := Make()
	if t != nil {
		own = *t
	}
	return Summer[T]{table: &own, bytes: bytes}
}

// Of: a thing's sum.
func (s Summer[T]) Of(x T) uint32 { return s.table.Of(s.text(x)) }

// All: that of several.
func (s Summer[T]) All(l []T) uint32 {
	var sum uint32
	for _, x := range l {
		sum = s.table.Add(sum, s.text(x))
	}
	return sum
}

// text is a thing's bytes. A function that panics tells none, for no call of ours may panic.
func (s Summer[T]) text(x T) (text string) {
	if s.bytes == nil {
		return ""
	}
	defer func() {
		if recover() != nil {
			text = ""
		}
	}()
	return s.bytes(x)
}
