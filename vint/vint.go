// Package vint is layer 1: see shared/doc/01-vint.md.
package vint

import "catchword/api"

const (
	bits   = 7         // bits of a number in a byte
	more   = 1 << bits // added to each byte but the last one
	widest = 5         // bytes of MaxInt; any five bytes' number is at most that
)

// Put are the bytes of n; nothing, if it has none.
func Put(n int) []byte {
	if n < 0 || n > api.MaxInt {
		return nil
	}
	return write(n)
}

// Get reads the number whose bytes stand in b from at on, and tells the place behind these.
func Get(b []byte, at int) (int, int, api.Errno) {
	if at < 0 || at > len(b) {
		return 0, 0, api.ErrArg
	}
	n := 0
	for i := range min(widest, len(b)-at) {
		c := int(b[at+i])
		n |= (c % more) << (bits * i)
		if c >= more {
			continue
		}
		if c == 0 && i > 0 { // without it the number would be the same
			return 0, 0, api.ErrForm
		}
		return n, at + i + 1, api.OK
	}
	return 0, 0, api.ErrForm
}

// Rise are the bytes of a rising list.
func Rise(l []int) ([]byte, api.Errno) {
	if !rising(l) {
		return nil, api.ErrArg
	}
	numbers := []int{len(l)}
	least := 0
	for _, n := range l {
		numbers = append(numbers, n-least)
		least = n + 1
	}
	return write(numbers...), api.OK
}

// Read reads the rising list whose bytes stand in b from at on, and tells the place behind these.
func Read(b []byte, at int) ([]int, int, api.Errno) {
	count, place, e := Get(b, at)
	if e != api.OK {
		return nil, 0, e
	}
	if count > api.MaxList {
		return nil, 0, api.ErrForm
	}
	var l []int
	least := 0
	for range count {
		step, next, e := Get(b, place)
		if e != api.OK {
			return nil, 0, e
		}
		if step > api.MaxInt-least {
			return nil, 0, api.ErrForm
		}
		l = append(l, least+step)
		least += step + 1
		place = next
	}
	return l, place, api.OK
}

// rising tells whether l may be written: the least that a number may be is one above the one ahead.
func rising(l []int) bool {
	if len(l) > api.MaxList {
		return false
	}
	least := 0
	for _, n := range l {
		if n < least || n > api.MaxInt {
			return false
		}
		least = n + 1
	}
	return true
}

// write are the bytes of numbers from 0 to MaxInt, one behind the other.
func write(numbers ...int) []byte {
	var b []byte
	for _, n := range numbers {
		for n >= more {
			b = append(b, byte(n%more+more))
			n /= more
		}
		b = append(b, byte(n))
	}
	return b
}
