package loss

import (
	"slices"

	"turnpike/api"
)

// packet: one that is out.
type packet struct {
	number, size, at int
	elicits          bool
}

// space: the packets of one space of numbers.
type space struct {
	out          []packet   // rising by number, and so by time
	sent         []api.Span // all numbers ever sent: an acknowledgement of another one is refused, however old
	acked        int        // the greatest number ever acknowledged
	lastElicited int        // when the last packet that elicits was sent
	lossTime     int
}

// greatestSent: the greatest number sent.
func (s *space) greatestSent() int {
	if len(s.sent) == 0 {
		return none
	}
	return s.sent[len(s.sent)-1].To
}

// send: the packet is out. Its number is above all those that were sent.
func (s *space) send(p packet) {
	if !p.elicits {
		p.size = 0
	} else {
		s.lastElicited = p.at
	}
	s.out = append(s.out, p)
	if len(s.sent) > 0 && p.number == s.greatestSent()+1 {
		s.sent[len(s.sent)-1].To = p.number
		return
	}
	s.sent = append(s.sent, api.Span{From: p.number, To: p.number})
}

// take: those packets are out no more of which it is said, rising.
func (s *space) take(gone func(p packet) bool) []packet {
	var taken []packet
	kept := s.out[:0]
	for _, p := range s.out {
		if gone(p) {
			taken = append(taken, p)
		} else {
			kept = append(kept, p)
		}
	}
	s.out = kept
	return taken
}

// under: what is under way here.
func (s *space) under() int {
	sum := 0
	for _, p := range s.out {
		sum += p.size
	}
	return sum
}

// elicits: whether one of the packets does.
func elicits(list []packet) bool {
	return slices.ContainsFunc(list, func(p packet) bool { return p.elicits })
}

// numbers: those of the packets.
func numbers(list []packet) []int {
	told := make([]int, len(list))
	for i, p := range list {
		told[i] = p.number
	}
	return told
}

// holds: whether a number is in spans that rise.
func holds(list []api.Span, number int) bool {
	_, found := slices.BinarySearchFunc(list, number, func(span api.Span, n int) int {
		switch {
		case span.To < n:
			return -1
		case span.From > n:
			return 1
		}
		return 0
	})
	return found
}
