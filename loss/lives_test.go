package loss_test

import (
	"math"
	"math/rand"
	"slices"
	"testing"

	"turnpike/api"
)

// seen counts what came up in many lives.
type seen struct {
	errors                         map[api.Errno]int
	acked, lost, fired, probed     int
	nothingNew, nothingLost, fewer int
	least, slow                    int
}

// walk is a random life: its numbers and its time as they go on.
type walk struct {
	*life
	r    *rand.Rand
	next [3]int
	now  int
	step int // how far the time goes at the most
	seen *seen
}

func (w *walk) space() int {
	if w.r.Intn(60) == 0 {
		return []int{-1, 3, math.MinInt, math.MaxInt}[w.r.Intn(4)]
	}
	return w.r.Intn(3)
}

// time: now or later, seldom one that is refused.
func (w *walk) time() int {
	if w.r.Intn(60) == 0 {
		return []int{-1, w.now - 1, last + 1, math.MinInt, math.MaxInt}[w.r.Intn(5)]
	}
	if w.r.Intn(3) > 0 {
		w.now += w.r.Intn(w.step + 1)
	}
	return w.now
}

func (w *walk) send() {
	space := w.space()
	number, size := w.r.Intn(20)-1, []int{0, 1, 40, 1200, 1200, 1200, 65535}[w.r.Intn(7)]
	if space >= 0 && space < 3 && w.r.Intn(20) > 0 {
		if w.r.Intn(8) == 0 {
			w.next[space] += w.r.Intn(5)
		}
		number = w.next[space]
		w.next[space]++
	}
	if w.r.Intn(60) == 0 {
		size = []int{-1, 65536, math.MinInt, math.MaxInt}[w.r.Intn(4)]
	}
	e := w.trySent(space, number, size, w.r.Intn(4) > 0, w.time())
	w.seen.errors[e]++
}

// spans: such as an acknowledgement may have, most of them with a last number that was sent.
func (w *walk) spans(space int) []api.Span {
	end := w.next[max(0, min(space, 2))]
	from := max(0, end-1-w.r.Intn(12))
	var list []api.Span
	for range 1 + w.r.Intn(4) {
		to := from + w.r.Intn(4)
		list = append(list, api.Span{From: from, To: to})
		from = to + 2 + w.r.Intn(3)
	}
	for len(list) > 1 && list[len(list)-1].To >= end {
		list = list[:len(list)-1]
	}
	s := &list[len(list)-1]
	s.To = max(s.From, min(s.To, end-1))
	if w.r.Intn(30) == 0 {
		i := w.r.Intn(len(list))
		list[i].From += w.r.Intn(7) - 3
		list[i].To += w.r.Intn(7) - 3
	}
	return list
}

func (w *walk) acknowledge() {
	space := w.space()
	delay := w.r.Intn(40)
	if w.r.Intn(40) == 0 {
		delay = []int{-1, api.MaxNum, api.MaxNum + 1, math.MinInt}[w.r.Intn(4)]
	}
	window := w.m.window
	acked, lost, e := w.tryAck(space, w.spans(space), delay, w.time())
	w.seen.errors[e]++
	w.seen.acked += len(acked)
	w.seen.lost += len(lost)
	if e == api.OK && len(acked) == 0 {
		w.seen.nothingNew++
	}
	if len(lost) > 0 && w.m.window >= window {
		w.seen.fewer++
	}
	if w.m.window == 2400 {
		w.seen.least++
	}
	if len(w.m.threshold) > 0 && w.m.window > window {
		w.seen.slow++
	}
}

func (w *walk) fire() {
	now := w.time()
	if at, ok := w.l.Timer(); ok && at >= w.now && at < w.now+5*w.step && w.r.Intn(2) == 0 {
		w.now = max(w.now, at-w.r.Intn(2))
		now = w.now
	}
	space, lost, probe, e := w.tryFire(now)
	w.seen.errors[e]++
	w.seen.fired += len(lost)
	if probe {
		w.seen.probed++
	}
	if space >= 0 && !probe && e == api.OK && len(lost) == 0 {
		w.seen.nothingLost++
	}
}

// P11.2 to P11.8: many lives of the three spaces, held against the chapter's words call by call.
func TestLives(t *testing.T) {
	r := rand.New(rand.NewSource(32))
	s := &seen{errors: map[api.Errno]int{}}
	for range 4000 {
		w := &walk{life: newLife(t, r.Intn(60)), r: r, step: 1 + r.Intn(1<<r.Intn(9)), seen: s}
		for range 20 + r.Intn(100) {
			switch n := r.Intn(40); {
			case n < 22:
				w.send()
			case n < 33:
				w.acknowledge()
			case n < 39:
				w.fire()
			case r.Intn(3) == 0:
				_, e := w.tryDrop(w.space())
				s.errors[e]++
			}
		}
	}
	for _, e := range []api.Errno{api.OK, api.ErrSpace, api.ErrPacket, api.ErrClock, api.ErrRange} {
		if s.errors[e] < 50 {
			t.Errorf("the error %d came %d times", e, s.errors[e])
		}
	}
	for _, n := range []int{s.acked, s.lost, s.fired, s.probed, s.nothingNew, s.nothingLost, s.fewer, s.least, s.slow} {
		if n < 50 {
			t.Errorf("too little came up: %+v", *s)
			break
		}
	}
}

// P1: any arguments, held against the chapter's words.
func TestAnyArguments(t *testing.T) {
	r := rand.New(rand.NewSource(33))
	odd := func() int {
		list := []int{math.MinInt, -last, -1, 0, 1, 2, 3, 4, 5, 65535, 65536, last - 1, last, last + 1, api.MaxNum - 1, api.MaxNum, api.MaxNum + 1, math.MaxInt - 1, math.MaxInt}
		return list[r.Intn(len(list))]
	}
	for range 4000 {
		x := newLife(t, r.Intn(1<<14))
		for range 60 {
			switch r.Intn(4) {
			case 0:
				x.trySent(r.Intn(4), odd(), odd(), r.Intn(2) == 0, odd())
			case 1:
				var spans []api.Span
				for range r.Intn(4) {
					spans = append(spans, api.Span{From: odd(), To: odd()})
				}
				if r.Intn(2) == 0 {
					slices.SortFunc(spans, func(a, b api.Span) int { return a.From/4 - b.From/4 })
				}
				x.tryAck(r.Intn(4), spans, odd(), odd())
			case 2:
				x.tryFire(odd())
			default:
				x.tryDrop(r.Intn(9) - 1)
			}
		}
	}
}

// P11.3, P11.4: a long life with all the room for packets in use; each number is acknowledged or lost once.
func TestLongLife(t *testing.T) {
	x := newLife(t, 25)
	met := map[int]int{}
	meet := func(list []int) {
		for _, n := range list {
			met[n]++
		}
	}
	number, now := 0, 0
	for range 8 {
		for n := 0; ; n++ {
			e := x.l.Sent(2, number, 1000, n%3 > 0, now)
			if e == api.ErrMost {
				break
			}
			if e != api.OK {
				t.Fatalf("Sent(%d): %d", number, e)
			}
			number++
		}
		now += 50
		acked, lost, e := x.l.Ack(2, pairs(number-4000, number-3001, number-2000, number-1001, number-3, number-2), 0, now)
		if e != api.OK {
			t.Fatalf("Ack: %d", e)
		}
		meet(acked)
		meet(lost)
		at, _ := x.l.Timer()
		now = max(now, at)
		_, lost, _, _ = x.l.Fire(now)
		meet(lost)
	}
	gone, _ := x.l.Drop(2)
	meet(gone)
	if x.l.Under() != 0 || len(met) != number {
		t.Errorf("under way %d; %d of %d packets were told", x.l.Under(), len(met), number)
	}
	for n, times := range met {
		if times != 1 {
			t.Errorf("the packet %d was told %d times", n, times)
		}
	}
}
