package huff

import "strings"

// The bytes of the four short classes, rising in each; all others have the longest codes.
const (
	five  = "012aceiost"
	six   = " %-./3456789=A_bdfghlmnpru"
	seven = ":BCDEFGHIJKLMNOPQRSTUVWYjkqvwxyz"
	eight = "&*,;XZ"
	short = five + six + seven + eight
)

// longest: how many bits the longest codes have.
const longest = 15

// A class is the bytes whose codes have so many bits, rising; the first one's code is first, and each has one more than the one ahead of it.
type class struct {
	bits    int
	first   int
	members string
}

// behind: the number behind the class's last code.
func (c class) behind() int {
	return c.first + len(c.members)
}

// classes: all of them, the shortest codes ahead.
func classes() [5]class {
	all := [5]class{
		{bits: 5, members: five},
		{bits: 6, members: six},
		{bits: 7, members: seven},
		{bits: 8, members: eight},
		{bits: longest, members: others()},
	}
	for i := 1; i < len(all); i++ {
		all[i].first = all[i-1].behind() << (all[i].bits - all[i-1].bits)
	}
	return all
}

// others: the bytes that are in no short class.
func others() string {
	var list []byte
	for i := range 256 {
		if strings.IndexByte(short, byte(i)) < 0 {
			list = append(list, byte(i))
		}
	}
	return string(list)
}

// A code is a number of so many bits.
type code struct {
	number int
	bits   int
}

// codes: the code of each byte.
func codes() [256]code {
	var all [256]code
	for _, c := range classes() {
		for i := range len(c.members) {
			all[c.members[i]] = code{number: c.first + i, bits: c.bits}
		}
	}
	return all
}
