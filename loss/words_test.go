package loss_test

import (
	"slices"
	"testing"

	"turnpike/api"
	"turnpike/loss"
)

// model is layer 11 by the chapter's words: every packet that was ever sent stays in a list, and all is asked of that list.
type model struct {
	most, now int
	all       []record
	acked     [3]int   // the greatest number that was ever acknowledged
	lossTimes [3][]int // one time, or none

	window, recovery, probes    int
	threshold                   []int // one number, or none
	samples                     int
	latest, least, smooth, vary int
}

// record is a packet that was sent.
type record struct {
	space, number, size, at int
	elicits, out            bool
}

func newModel(most int) *model {
	return &model{most: most, window: 12000, recovery: -1, smooth: 333, vary: 166}
}

// of: the places in the list of the packets of a space that are out.
func (m *model) of(space int) []int {
	var list []int
	for i, p := range m.all {
		if p.space == space && p.out {
			list = append(list, i)
		}
	}
	return list
}

// told: the numbers of packets, by their places.
func (m *model) told(places []int) []int {
	var list []int
	for _, i := range places {
		list = append(list, m.all[i].number)
	}
	slices.Sort(list)
	return list
}

func noSpace(space int) bool { return space != 0 && space != 1 && space != 2 }

func (m *model) noTime(now int) bool { return now < 0 || now > 1<<40 || now < m.now }

func (m *model) sent(space, number, size int, elicits bool, now int) api.Errno {
	if noSpace(space) {
		return api.ErrSpace
	}
	if m.noTime(now) {
		return api.ErrClock
	}
	if number < 0 || number > 1<<62-1 || size < 0 || size > 65535 {
		return api.ErrPacket
	}
	for _, p := range m.all {
		if p.space == space && p.number >= number {
			return api.ErrPacket
		}
	}
	if len(m.of(space)) == 4096 {
		return api.ErrMost
	}
	m.now = now
	m.all = append(m.all, record{space, number, size, now, elicits, true})
	return api.OK
}

// noAck: spans that no ack has.
func noAck(spans []api.Span) bool {
	if len(spans) == 0 || len(spans) > 64 {
		return true
	}
	for i, s := range spans {
		if s.From < 0 || s.From > s.To || s.To > 1<<62-1 {
			return true
		}
		if i > 0 && (s.From <= spans[i-1].To || s.From-spans[i-1].To < 2) {
			return true
		}
	}
	return false
}

func (m *model) ack(space int, spans []api.Span, delay, now int) (acked, lost []int, e api.Errno) {
	if noSpace(space) {
		return nil, nil, api.ErrSpace
	}
	if m.noTime(now) {
		return nil, nil, api.ErrClock
	}
	if noAck(spans) {
		return nil, nil, api.ErrPacket
	}
	last := spans[len(spans)-1].To
	lastAt := slices.IndexFunc(m.all, func(p record) bool { return p.space == space && p.number == last })
	if lastAt < 0 {
		return nil, nil, api.ErrPacket
	}
	if delay < 0 || delay > 1<<62-1 {
		return nil, nil, api.ErrRange
	}
	m.now = now
	var fresh []int
	elicits := false
	for _, i := range m.of(space) {
		for _, s := range spans {
			if s.From <= m.all[i].number && m.all[i].number <= s.To {
				fresh = append(fresh, i)
				elicits = elicits || m.all[i].elicits
			}
		}
	}
	if len(fresh) == 0 {
		return nil, nil, api.OK
	}
	for _, i := range fresh {
		m.all[i].out = false
		m.acked[space] = max(m.acked[space], m.all[i].number)
	}
	if slices.Contains(fresh, lastAt) && elicits {
		cut := 0
		if space == 2 {
			cut = min(delay, m.most)
		}
		m.sample(now-m.all[lastAt].at, cut)
	}
	m.grow(fresh)
	m.probes = 0
	return m.told(fresh), m.losses(space, now), api.OK
}

func (m *model) sample(latest, cut int) {
	m.latest = latest
	m.samples++
	if m.samples == 1 {
		m.least, m.smooth, m.vary = latest, latest, latest/2
		return
	}
	if latest < m.least {
		m.least = latest
	}
	if latest < m.least+cut {
		cut = 0
	}
	x := latest - cut
	difference := m.smooth - x
	if difference < 0 {
		difference = -difference
	}
	m.vary = (3*m.vary + difference) / 4
	m.smooth = (7*m.smooth + x) / 8
}

func (m *model) grow(fresh []int) {
	for _, i := range fresh {
		p := m.all[i]
		if !p.elicits || p.at <= m.recovery {
			continue
		}
		if len(m.threshold) == 0 || m.window < m.threshold[0] {
			m.window += p.size
		} else {
			m.window += 1200 * p.size / m.window
		}
	}
}

func (m *model) losses(space, time int) []int {
	g, d := m.acked[space], max(1, 9*max(m.latest, m.smooth)/8)
	var lost, sentAt, still []int
	for _, i := range m.of(space) {
		p := &m.all[i]
		switch {
		case p.number >= g:
		case p.number <= g-3 || time-p.at >= d:
			p.out = false
			lost = append(lost, i)
			if p.elicits {
				sentAt = append(sentAt, p.at)
			}
		default:
			still = append(still, p.at)
		}
	}
	if len(sentAt) > 0 && slices.Max(sentAt) > m.recovery {
		m.recovery = time
		m.threshold = []int{m.window / 2}
		m.window = max(m.threshold[0], 2400)
	}
	m.lossTimes[space] = nil
	if len(still) > 0 {
		m.lossTimes[space] = []int{slices.Min(still) + d}
	}
	return m.told(lost)
}

// due: the time of the timer, its space, and whether it is a probe's; the space is -1, if there is none.
func (m *model) due() (space, at int, probe bool) {
	space = -1
	for s := range 3 {
		if t := m.lossTimes[s]; len(t) > 0 && (space < 0 || t[0] < at) {
			space, at = s, t[0]
		}
	}
	if space >= 0 {
		return space, at, false
	}
	for s := range 3 {
		out, last := false, 0
		for _, p := range m.all {
			if p.space == s && p.elicits {
				out, last = out || p.out, p.at
			}
		}
		if !out {
			continue
		}
		wait := m.smooth + max(1, 4*m.vary)
		if s == 2 {
			wait += m.most
		}
		for range m.probes {
			wait *= 2
		}
		if space < 0 || last+wait < at {
			space, at = s, last+wait
		}
	}
	return space, at, space >= 0
}

func (m *model) fire(now int) (space int, lost []int, probe bool, e api.Errno) {
	if m.noTime(now) {
		return 0, nil, false, api.ErrClock
	}
	m.now = now
	space, at, probe := m.due()
	if space < 0 || at > now {
		return -1, nil, false, api.OK
	}
	if probe {
		m.probes = min(20, m.probes+1)
		return space, nil, true, api.OK
	}
	return space, m.losses(space, now), false, api.OK
}

func (m *model) drop(space int) ([]int, api.Errno) {
	if noSpace(space) {
		return nil, api.ErrSpace
	}
	gone := m.of(space)
	for _, i := range gone {
		m.all[i].out = false
	}
	m.lossTimes[space] = nil
	return m.told(gone), api.OK
}

func (m *model) under() int {
	sum := 0
	for _, p := range m.all {
		if p.out && p.elicits {
			sum += p.size
		}
	}
	return sum
}

// life is a Loss and its model, that are asked the same; each call is held against the model, and all that is told behind it.
type life struct {
	t *testing.T
	l *loss.Loss
	m *model
}

func newLife(t *testing.T, most int) *life {
	t.Helper()
	l, e := loss.New(most)
	if e != api.OK || l == nil {
		t.Fatalf("New(%d): %v, %d", most, l, e)
	}
	x := &life{t, l, newModel(most)}
	x.look()
	return x
}

// look asks all that changes nothing.
func (x *life) look() {
	x.t.Helper()
	space, at, _ := x.m.due()
	if got, ok := x.l.Timer(); got != at || ok != (space >= 0) {
		x.t.Fatalf("Timer: %d, %v; by the words %d, %v", got, ok, at, space >= 0)
	}
	if x.l.Under() != x.m.under() || x.l.Window() != x.m.window {
		x.t.Fatalf("Under %d, Window %d; by the words %d, %d", x.l.Under(), x.l.Window(), x.m.under(), x.m.window)
	}
	if a, b, c, d := x.l.Rtt(); a != x.m.latest || b != x.m.least || c != x.m.smooth || d != x.m.vary {
		x.t.Fatalf("Rtt %d, %d, %d, %d; by the words %d, %d, %d, %d", a, b, c, d, x.m.latest, x.m.least, x.m.smooth, x.m.vary)
	}
}

func (x *life) trySent(space, number, size int, elicits bool, now int) api.Errno {
	x.t.Helper()
	e := x.l.Sent(space, number, size, elicits, now)
	if want := x.m.sent(space, number, size, elicits, now); e != want {
		x.t.Fatalf("Sent(%d, %d, %d, %v, %d): %d; by the words %d", space, number, size, elicits, now, e, want)
	}
	x.look()
	return e
}

func (x *life) tryAck(space int, spans []api.Span, delay, now int) (acked, lost []int, e api.Errno) {
	x.t.Helper()
	acked, lost, e = x.l.Ack(space, spans, delay, now)
	a, b, want := x.m.ack(space, spans, delay, now)
	if !slices.Equal(acked, a) || !slices.Equal(lost, b) || e != want {
		x.t.Fatalf("Ack(%d, %v, %d, %d): %v, %v, %d; by the words %v, %v, %d", space, spans, delay, now, acked, lost, e, a, b, want)
	}
	x.look()
	return acked, lost, e
}

func (x *life) tryFire(now int) (space int, lost []int, probe bool, e api.Errno) {
	x.t.Helper()
	space, lost, probe, e = x.l.Fire(now)
	s, b, p, want := x.m.fire(now)
	if space != s || !slices.Equal(lost, b) || probe != p || e != want {
		x.t.Fatalf("Fire(%d): %d, %v, %v, %d; by the words %d, %v, %v, %d", now, space, lost, probe, e, s, b, p, want)
	}
	x.look()
	return space, lost, probe, e
}

func (x *life) tryDrop(space int) ([]int, api.Errno) {
	x.t.Helper()
	gone, e := x.l.Drop(space)
	g, want := x.m.drop(space)
	if !slices.Equal(gone, g) || e != want {
		x.t.Fatalf("Drop(%d): %v, %d; by the words %v, %d", space, gone, e, g, want)
	}
	x.look()
	return gone, e
}

// sent: a packet that elicits, and is taken.
func (x *life) sent(space, number, size, now int) {
	x.t.Helper()
	x.wantSent(space, number, size, true, now, api.OK)
}

// quiet: a packet that does not elicit, and is taken.
func (x *life) quiet(space, number, now int) {
	x.t.Helper()
	x.wantSent(space, number, 1000, false, now, api.OK)
}

func (x *life) wantSent(space, number, size int, elicits bool, now int, want api.Errno) {
	x.t.Helper()
	if e := x.trySent(space, number, size, elicits, now); e != want {
		x.t.Errorf("Sent(%d, %d, %d, %v, %d): %d; want %d", space, number, size, elicits, now, e, want)
	}
}

// wantAck: the acknowledgement is taken, and brings this.
func (x *life) wantAck(space int, spans []api.Span, delay, now int, acked, lost []int) {
	x.t.Helper()
	if a, b, e := x.tryAck(space, spans, delay, now); !slices.Equal(a, acked) || !slices.Equal(b, lost) || e != api.OK {
		x.t.Errorf("Ack(%d, %v, %d, %d): %v, %v, %d; want %v, %v", space, spans, delay, now, a, b, e, acked, lost)
	}
}

// refuseAck: the acknowledgement is refused.
func (x *life) refuseAck(space int, spans []api.Span, delay, now int, want api.Errno) {
	x.t.Helper()
	if a, b, e := x.tryAck(space, spans, delay, now); len(a) > 0 || len(b) > 0 || e != want {
		x.t.Errorf("Ack(%d, %v, %d, %d): %v, %v, %d; want %d", space, spans, delay, now, a, b, e, want)
	}
}

func (x *life) wantFire(now, space int, lost []int, probe bool) {
	x.t.Helper()
	if s, b, p, e := x.tryFire(now); s != space || !slices.Equal(b, lost) || p != probe || e != api.OK {
		x.t.Errorf("Fire(%d): %d, %v, %v, %d; want %d, %v, %v", now, s, b, p, e, space, lost, probe)
	}
}

func (x *life) refuseFire(now int) {
	x.t.Helper()
	if s, b, p, e := x.tryFire(now); s != 0 || len(b) > 0 || p || e != api.ErrClock {
		x.t.Errorf("Fire(%d): %d, %v, %v, %d; want ErrClock", now, s, b, p, e)
	}
}

func (x *life) wantDrop(space int, gone []int) {
	x.t.Helper()
	if g, e := x.tryDrop(space); !slices.Equal(g, gone) || e != api.OK {
		x.t.Errorf("Drop(%d): %v, %d; want %v", space, g, e, gone)
	}
}

func (x *life) wantTimer(want int) {
	x.t.Helper()
	if at, ok := x.l.Timer(); at != want || !ok {
		x.t.Errorf("Timer: %d, %v; want %d", at, ok, want)
	}
}

func (x *life) wantNoTimer() {
	x.t.Helper()
	if at, ok := x.l.Timer(); at != 0 || ok {
		x.t.Errorf("Timer: %d, %v; want none", at, ok)
	}
}

func (x *life) wantRoom(under, window int) {
	x.t.Helper()
	if x.l.Under() != under || x.l.Window() != window {
		x.t.Errorf("Under %d, Window %d; want %d, %d", x.l.Under(), x.l.Window(), under, window)
	}
}

func (x *life) wantRtt(latest, least, smooth, vary int) {
	x.t.Helper()
	if a, b, c, d := x.l.Rtt(); a != latest || b != least || c != smooth || d != vary {
		x.t.Errorf("Rtt %d, %d, %d, %d; want %d, %d, %d, %d", a, b, c, d, latest, least, smooth, vary)
	}
}

// only: the one span from a number to a number.
func only(from, to int) []api.Span { return []api.Span{{From: from, To: to}} }

// pairs: spans, each by two numbers.
func pairs(ends ...int) []api.Span {
	var list []api.Span
	for i := 0; i < len(ends); i += 2 {
		list = append(list, api.Span{From: ends[i], To: ends[i+1]})
	}
	return list
}

// each: spans of one number each.
func each(numbers ...int) []api.Span {
	var list []api.Span
	for _, n := range numbers {
		list = append(list, api.Span{From: n, To: n})
	}
	return list
}
