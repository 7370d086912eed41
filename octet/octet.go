// Package octet is layer 1: it encodes integers, strings and lists of integers in bytes, and decodes them from the front of bytes: see shared/doc/01-octet.md.
package octet

import (
	"math"

	"pavane/api"
)

// Uint is the varint of a number that is not negative.
func Uint(n int) ([]byte, api.Errno) {
	if n < 0 {
		return nil, api.ErrArg
	}
	return appendVarint(nil, uint64(n)), api.OK
}

// TakeUint decodes a varint: the number, and how many bytes it takes.
func TakeUint(b []byte) (int, int, api.Errno) {
	d := decoder{bytes: b}
	n := d.count()
	return n, d.at, d.code
}

// Int is the signed varint of a number.
func Int(n int) []byte {
	return appendVarint(nil, fold(n))
}

// TakeInt decodes a signed varint: the number, and how many bytes it takes.
func TakeInt(b []byte) (int, int, api.Errno) {
	d := decoder{bytes: b}
	n := d.integer()
	return n, d.at, d.code
}

// Text is the encoding of a string.
func Text(s string) ([]byte, api.Errno) {
	if len(s) > api.MaxText {
		return nil, api.ErrLong
	}
	return append(appendVarint(nil, uint64(len(s))), s...), api.OK
}

// TakeText decodes a string: it, and how many bytes its encoding takes.
func TakeText(b []byte) (string, int, api.Errno) {
	d := decoder{bytes: b}
	s := d.text()
	return s, d.at, d.code
}

// Ints is the encoding of a list of integers.
func Ints(l ...int) ([]byte, api.Errno) {
	if len(l) > api.MaxInts {
		return nil, api.ErrLong
	}
	b := appendVarint(nil, uint64(len(l)))
	for _, n := range l {
		b = appendVarint(b, fold(n))
	}
	return b, api.OK
}

// TakeInts decodes a list of integers: it, and how many bytes its encoding takes.
func TakeInts(b []byte) ([]int, int, api.Errno) {
	d := decoder{bytes: b}
	l := d.list()
	return l, d.at, d.code
}

// appendVarint appends the digits of u in base 128, the most significant one first.
func appendVarint(b []byte, u uint64) []byte {
	shift := 0
	for u>>shift >= 128 {
		shift += 7
	}
	for ; shift > 0; shift -= 7 {
		b = append(b, byte(u>>shift)|128)
	}
	return append(b, byte(u&127))
}

// fold is the number whose varint stands for n. It is worked out by bits, since 2n itself may be beyond the ends of an int.
func fold(n int) uint64 {
	return uint64(n)<<1 ^ uint64(n>>63)
}

// unfold is the number that fold has made u of.
func unfold(u uint64) int {
	return int(u>>1) ^ -int(u&1)
}

// place is how far a decoder has come, and the error that has stopped it.
type place struct {
	at   int
	code api.Errno
}

func (p *place) advance(n int) { p.at += n }

// fail also forgets how far the decoder has come: beside an error, that is 0.
func (p *place) fail(code api.Errno) { p.at, p.code = 0, code }

func (p *place) failed() bool { return p.code != api.OK }

// decoder takes one value after the other from the front of bytes. What it takes is zero once it has failed.
type decoder struct {
	place
	bytes []byte
}

// varint takes a varint that is at most most, which is at least 127.
func (d *decoder) varint(most uint64) uint64 {
	u := uint64(0)
	for first := true; d.at < len(d.bytes); first = false {
		b := d.bytes[d.at]
		d.advance(1)
		digit := uint64(b & 127)
		if first && b == 128 || u > (most-digit)/128 {
			d.fail(api.ErrForm)
			return 0
		}
		u = u*128 + digit
		if b < 128 {
			return u
		}
	}
	d.fail(api.ErrEnd)
	return 0
}

func (d *decoder) count() int { return int(d.varint(math.MaxInt64)) }

func (d *decoder) integer() int { return unfold(d.varint(math.MaxUint64)) }

// size takes a count that is at most most.
func (d *decoder) size(most int) int {
	n := d.count()
	if n > most {
		d.fail(api.ErrLong)
		return 0
	}
	return n
}

func (d *decoder) text() string {
	n := d.size(api.MaxText)
	if d.failed() {
		return ""
	}
	rest := d.bytes[d.at:]
	if len(rest) < n {
		d.fail(api.ErrEnd)
		return ""
	}
	d.advance(n)
	return string(rest[:n])
}

func (d *decoder) list() []int {
	n := d.size(api.MaxInts)
	if d.failed() {
		return nil
	}
	l := make([]int, n)
	for i := range l {
		l[i] = d.integer()
		if d.failed() {
			return nil
		}
	}
	return l
}
