package plog

import (
	"strings"

	"commons/api"
	"commons/crc"
	"commons/num"
)

// The widths and bounds of what a record consists of.
const (
	countWidth  = 2
	atWidth     = 4
	lengthWidth = 2
	sumWidth    = 4
	unit        = 8 // of which a record's length is a multiple
	maxData     = 256
)

// Encode returns the record with some patches.
func Encode(l []api.Patch) ([]byte, api.Errno) {
	if len(l) > api.MaxWrites {
		return nil, api.ErrArg
	}
	b := num.Put(nil, len(l), countWidth)
	for _, p := range l {
		if !num.Fits(p.At, atWidth) || len(p.Data) > maxData {
			return nil, api.ErrArg
		}
		b = num.Put(b, p.At, atWidth)
		b = num.Put(b, len(p.Data), lengthWidth)
		b = append(b, p.Data...)
	}
	b = num.Put(b, int(crc.Sum(b)), sumWidth)
	return append(b, make([]byte, padding(len(b)))...), api.OK
}

// Decode returns the patches of the record with which bytes begin, and the
// number of its bytes.
func Decode(b []byte) ([]api.Patch, int, api.Errno) {
	at, short := 0, false
	take := func(n int) string {
		if short = short || n > len(b)-at; short {
			return ""
		}
		at += n
		return string(b[at-n : at])
	}
	number := func(width int) int {
		n, _ := num.Get([]byte(take(width)), 0, width)
		return n
	}
	count := number(countWidth)
	if count > api.MaxWrites {
		return nil, 0, api.ErrBytes
	}
	l := make([]api.Patch, count)
	for i := range l {
		place, length := number(atWidth), number(lengthWidth)
		if length > maxData {
			return nil, 0, api.ErrBytes
		}
		l[i] = api.Patch{At: place, Data: take(length)}
	}
	right := int(crc.Sum(b[:at]))
	sum := number(sumWidth)
	if !short && sum != right {
		return nil, 0, api.ErrSum
	}
	rest := take(padding(at))
	if short {
		return nil, 0, api.ErrShort
	}
	if strings.Trim(rest, "\x00") != "" {
		return nil, 0, api.ErrBytes
	}
	return l, at, api.OK
}

// padding returns how many bytes 0 follow so many bytes.
func padding(n int) int {
	return num.Up(n, unit) - n
}
