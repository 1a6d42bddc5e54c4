package spans_test

import (
	"math"
	"math/rand"
	"slices"
	"testing"

	"turnpike/api"
	"turnpike/spans"
)

// made: a new set, which must be made.
func made(t *testing.T, most int) *spans.Set {
	t.Helper()
	s, e := spans.New(most)
	if s == nil || e != api.OK {
		t.Fatalf("New(%d): %v, %d", most, s, e)
	}
	return s
}

// list: pairs of numbers as spans.
func list(ends ...int) []api.Span {
	var all []api.Span
	for i := 0; i+1 < len(ends); i += 2 {
		all = append(all, api.Span{From: ends[i], To: ends[i+1]})
	}
	return all
}

// wantAdd asks Add for one answer.
func wantAdd(t *testing.T, s *spans.Set, from, to, fresh int, e api.Errno) {
	t.Helper()
	if got, gotE := s.Add(from, to); got != fresh || gotE != e {
		t.Errorf("Add(%d, %d): %d, %d; want %d, %d", from, to, got, gotE, fresh, e)
	}
}

// wantRaise asks Raise for one answer.
func wantRaise(t *testing.T, s *spans.Set, floor int, e api.Errno) {
	t.Helper()
	if got := s.Raise(floor); got != e {
		t.Errorf("Raise(%d): %d; want %d", floor, got, e)
	}
}

// wantState asks for all that a set tells: its floor, its spans, the greatest number, and what is had at each edge.
func wantState(t *testing.T, s *spans.Set, floor int, want []api.Span) {
	t.Helper()
	if s.Floor() != floor || !slices.Equal(s.List(), want) {
		t.Errorf("floor %d, spans %v; want %d, %v", s.Floor(), s.List(), floor, want)
	}
	high, some := 0, len(want) > 0
	if some {
		high = want[len(want)-1].To
	}
	if got, ok := s.High(); got != high || ok != some {
		t.Errorf("High: %d, %v; want %d, %v", got, ok, high, some)
	}
	wantHas(t, s, floor, want)
}

// wantHas asks for each number at an edge and beside it whether it is had.
func wantHas(t *testing.T, s *spans.Set, floor int, want []api.Span) {
	t.Helper()
	asked := []int{math.MinInt, -2, 0, 1, api.MaxNum - 1, api.MaxNum, math.MaxInt, floor}
	for _, span := range want {
		asked = append(asked, span.From, span.To)
	}
	for _, edge := range asked {
		for _, n := range []int{edge - 1, edge, edge + 1} {
			had := n >= 0 && n < floor
			for _, span := range want {
				had = had || span.From <= n && n <= span.To
			}
			if s.Has(n) != had {
				t.Errorf("Has(%d): %v with the floor %d and %v", n, !had, floor, want)
			}
		}
	}
}

// P2.1
func TestNewMakesAnEmptySet(t *testing.T) {
	for most := 1; most <= api.MaxSpans; most++ {
		wantState(t, made(t, most), 0, nil)
	}
}

// P2.1
func TestNewRefusesTooFewAndTooMany(t *testing.T) {
	for _, most := range []int{0, -1, -2, -64, math.MinInt, api.MaxSpans + 1, api.MaxSpans + 2, api.MaxNum, math.MaxInt} {
		if s, e := spans.New(most); s != nil || e != api.ErrMost {
			t.Errorf("New(%d): %v, %d", most, s, e)
		}
	}
}

// P2.1, P2.2: a set keeps as many spans as it was told, no more and no fewer.
func TestSetKeepsTheMost(t *testing.T) {
	for _, most := range []int{1, 2, 3, api.MaxSpans - 1, api.MaxSpans} {
		s := made(t, most)
		var want []api.Span
		for i := range most {
			at := 10 + 3*i
			wantAdd(t, s, at, at+1, 2, api.OK)
			want = append(want, api.Span{From: at, To: at + 1})
		}
		wantState(t, s, 0, want)
		at := 10 + 3*most
		wantAdd(t, s, at, at+1, 2, api.OK)
		want = append(want[1:], api.Span{From: at, To: at + 1})
		wantState(t, s, 12, want)
		wantAdd(t, s, at+3, at+3, 1, api.OK)
		want = append(want[1:], api.Span{From: at + 3, To: at + 3})
		wantState(t, s, 15, want)
	}
}

// P2.2, P2.3, P2.4: the chapter's example.
func TestExample(t *testing.T) {
	s := made(t, 2)
	wantAdd(t, s, 3, 5, 3, api.OK)
	wantAdd(t, s, 6, 6, 1, api.OK)
	wantState(t, s, 0, list(3, 6))
	wantAdd(t, s, 9, 9, 1, api.OK)
	wantState(t, s, 0, list(3, 6, 9, 9))
	wantAdd(t, s, 12, 20, 9, api.OK)
	wantState(t, s, 7, list(9, 9, 12, 20))
	wantAdd(t, s, 5, 8, 2, api.OK)
	wantState(t, s, 7, list(7, 9, 12, 20))
	wantRaise(t, s, 13, api.OK)
	wantState(t, s, 13, list(13, 20))
}

// P2.2: how an added span may lie to those that are there.
func TestAddByWhereTheSpanLies(t *testing.T) {
	for _, c := range []struct {
		name            string
		from, to, fresh int
		want            []api.Span
	}{
		{"below all", 0, 3, 4, list(0, 3, 10, 19, 30, 39, 50, 59)},
		{"below with one number between", 5, 8, 4, list(5, 8, 10, 19, 30, 39, 50, 59)},
		{"touches from below", 5, 9, 5, list(5, 19, 30, 39, 50, 59)},
		{"meets from below", 5, 10, 5, list(5, 19, 30, 39, 50, 59)},
		{"touches from above", 20, 22, 3, list(10, 22, 30, 39, 50, 59)},
		{"above with one number between", 21, 22, 2, list(10, 19, 21, 22, 30, 39, 50, 59)},
		{"meets from above", 19, 22, 3, list(10, 22, 30, 39, 50, 59)},
		{"between with room at both sides", 21, 28, 8, list(10, 19, 21, 28, 30, 39, 50, 59)},
		{"touches both sides", 20, 29, 10, list(10, 39, 50, 59)},
		{"meets both sides", 19, 30, 10, list(10, 39, 50, 59)},
		{"touches below, meets above", 20, 30, 10, list(10, 39, 50, 59)},
		{"within", 12, 15, 0, list(10, 19, 30, 39, 50, 59)},
		{"one number within", 35, 35, 0, list(10, 19, 30, 39, 50, 59)},
		{"the same", 30, 39, 0, list(10, 19, 30, 39, 50, 59)},
		{"around one", 25, 45, 11, list(10, 19, 25, 45, 50, 59)},
		{"around two", 5, 45, 21, list(5, 45, 50, 59)},
		{"around all", 0, 70, 41, list(0, 70)},
		{"from one into the last", 15, 55, 20, list(10, 59)},
		{"meets the last from above", 55, 60, 1, list(10, 19, 30, 39, 50, 60)},
		{"touches the last from above", 60, 60, 1, list(10, 19, 30, 39, 50, 60)},
		{"above all", 61, 61, 1, list(10, 19, 30, 39, 50, 59, 61, 61)},
		{"up to the greatest", 60, api.MaxNum, api.MaxNum - 59, list(10, 19, 30, 39, 50, api.MaxNum)},
		{"the greatest", api.MaxNum, api.MaxNum, 1, list(10, 19, 30, 39, 50, 59, api.MaxNum, api.MaxNum)},
		{"all", 0, api.MaxNum, api.MaxNum + 1 - 30, list(0, api.MaxNum)},
	} {
		t.Run(c.name, func(t *testing.T) {
			s := made(t, 4)
			wantAdd(t, s, 50, 59, 10, api.OK)
			wantAdd(t, s, 10, 19, 10, api.OK)
			wantAdd(t, s, 30, 39, 10, api.OK)
			wantAdd(t, s, c.from, c.to, c.fresh, api.OK)
			wantState(t, s, 0, c.want)
			wantAdd(t, s, c.from, c.to, 0, api.OK)
			wantState(t, s, 0, c.want)
		})
	}
}

// P2.2: what lies below the floor is had, and no span of its own.
func TestAddAtTheFloor(t *testing.T) {
	for _, c := range []struct {
		from, to, fresh int
		want            []api.Span
	}{
		{0, 0, 0, list(200, 209)},
		{0, 99, 0, list(200, 209)},
		{99, 99, 0, list(200, 209)},
		{0, 100, 1, list(100, 100, 200, 209)},
		{99, 103, 4, list(100, 103, 200, 209)},
		{100, 103, 4, list(100, 103, 200, 209)},
		{101, 103, 3, list(101, 103, 200, 209)},
		{0, 199, 100, list(100, 209)},
		{0, 300, 191, list(100, 300)},
	} {
		s := made(t, 2)
		wantRaise(t, s, 100, api.OK)
		wantAdd(t, s, 200, 209, 10, api.OK)
		wantAdd(t, s, c.from, c.to, c.fresh, api.OK)
		wantState(t, s, 100, c.want)
	}
}

// P2.2: one span too many, wherever the added one lies.
func TestLowestSpanGoes(t *testing.T) {
	for _, c := range []struct {
		from, to, fresh, floor int
		want                   []api.Span
	}{
		{0, 0, 1, 1, list(10, 19, 30, 39)},
		{2, 5, 4, 6, list(10, 19, 30, 39)},
		{8, 8, 1, 9, list(10, 19, 30, 39)},
		{21, 28, 8, 20, list(21, 28, 30, 39)},
		{41, 41, 1, 20, list(30, 39, 41, 41)},
		{api.MaxNum, api.MaxNum, 1, 20, list(30, 39, api.MaxNum, api.MaxNum)},
		{9, 9, 1, 0, list(9, 19, 30, 39)},
		{20, 20, 1, 0, list(10, 20, 30, 39)},
		{40, 40, 1, 0, list(10, 19, 30, 40)},
	} {
		s := made(t, 2)
		wantAdd(t, s, 10, 19, 10, api.OK)
		wantAdd(t, s, 30, 39, 10, api.OK)
		wantAdd(t, s, c.from, c.to, c.fresh, api.OK)
		wantState(t, s, c.floor, c.want)
		wantAdd(t, s, c.from, c.to, 0, api.OK)
		wantState(t, s, c.floor, c.want)
	}
}

// P2.2: the only span of a set with room for one.
func TestSetOfOneSpan(t *testing.T) {
	s := made(t, 1)
	wantAdd(t, s, api.MaxNum-1, api.MaxNum-1, 1, api.OK)
	wantState(t, s, 0, list(api.MaxNum-1, api.MaxNum-1))
	wantAdd(t, s, 5, 7, 3, api.OK)
	wantState(t, s, 8, list(api.MaxNum-1, api.MaxNum-1))
	wantAdd(t, s, 0, 7, 0, api.OK)
	wantAdd(t, s, api.MaxNum-3, api.MaxNum-3, 1, api.OK)
	wantState(t, s, api.MaxNum-2, list(api.MaxNum-1, api.MaxNum-1))
	wantAdd(t, s, 0, api.MaxNum, 2, api.OK)
	wantState(t, s, api.MaxNum-2, list(api.MaxNum-2, api.MaxNum))
}

// P2.2, P2.3: what is refused changes nothing.
func TestWrongNumbersAreRefused(t *testing.T) {
	wrong := list(-1, 5, -1, -1, math.MinInt, 0, math.MinInt, math.MaxInt, 5, 4, 1, 0, 0, -1, 21, 20, 0, math.MinInt,
		0, api.MaxNum+1, api.MaxNum+1, api.MaxNum+1, api.MaxNum+1, 0, 5, math.MaxInt, math.MaxInt, math.MaxInt,
		math.MaxInt, math.MinInt, api.MaxNum, api.MaxNum-1)
	s := made(t, 2)
	for _, span := range wrong {
		wantAdd(t, s, span.From, span.To, 0, api.ErrSpan)
		wantState(t, s, 0, nil)
	}
	wantRaise(t, s, 7, api.OK)
	wantAdd(t, s, 9, 9, 1, api.OK)
	wantAdd(t, s, 12, 20, 9, api.OK)
	for _, span := range wrong {
		wantAdd(t, s, span.From, span.To, 0, api.ErrSpan)
	}
	for _, floor := range []int{-1, -2, math.MinInt, api.MaxNum + 1, math.MaxInt} {
		wantRaise(t, s, floor, api.ErrSpan)
	}
	wantState(t, s, 7, list(9, 9, 12, 20))
}

// P2.3
func TestRaiseByWhereTheFloorLies(t *testing.T) {
	for _, c := range []struct {
		raise, floor int
		want         []api.Span
	}{
		{0, 5, list(10, 19, 30, 30, 50, 59)},
		{4, 5, list(10, 19, 30, 30, 50, 59)},
		{5, 5, list(10, 19, 30, 30, 50, 59)},
		{6, 6, list(10, 19, 30, 30, 50, 59)},
		{9, 9, list(10, 19, 30, 30, 50, 59)},
		{10, 10, list(10, 19, 30, 30, 50, 59)},
		{11, 11, list(11, 19, 30, 30, 50, 59)},
		{19, 19, list(19, 19, 30, 30, 50, 59)},
		{20, 20, list(30, 30, 50, 59)},
		{25, 25, list(30, 30, 50, 59)},
		{30, 30, list(30, 30, 50, 59)},
		{31, 31, list(50, 59)},
		{55, 55, list(55, 59)},
		{59, 59, list(59, 59)},
		{60, 60, nil},
		{1000, 1000, nil},
		{api.MaxNum, api.MaxNum, nil},
	} {
		s := made(t, 3)
		wantRaise(t, s, 5, api.OK)
		wantAdd(t, s, 10, 19, 10, api.OK)
		wantAdd(t, s, 30, 30, 1, api.OK)
		wantAdd(t, s, 50, 59, 10, api.OK)
		wantRaise(t, s, c.raise, api.OK)
		wantState(t, s, c.floor, c.want)
		wantRaise(t, s, c.raise, api.OK)
		wantRaise(t, s, 0, api.OK)
		wantState(t, s, c.floor, c.want)
	}
}

// P2.3: room that Raise made is there for other spans.
func TestRaiseMakesRoom(t *testing.T) {
	s := made(t, 2)
	wantAdd(t, s, 1, 2, 2, api.OK)
	wantAdd(t, s, 4, 5, 2, api.OK)
	wantRaise(t, s, 4, api.OK)
	wantAdd(t, s, 8, 9, 2, api.OK)
	wantState(t, s, 4, list(4, 5, 8, 9))
	wantAdd(t, s, 11, 11, 1, api.OK)
	wantState(t, s, 6, list(8, 9, 11, 11))
}

// P2.3: the floor at the greatest number leaves just that one.
func TestRaiseToTheGreatest(t *testing.T) {
	s := made(t, 2)
	wantAdd(t, s, 3, api.MaxNum, api.MaxNum-2, api.OK)
	wantRaise(t, s, api.MaxNum, api.OK)
	wantState(t, s, api.MaxNum, list(api.MaxNum, api.MaxNum))

	s = made(t, 2)
	wantRaise(t, s, api.MaxNum, api.OK)
	wantState(t, s, api.MaxNum, nil)
	wantAdd(t, s, 0, api.MaxNum-1, 0, api.OK)
	wantState(t, s, api.MaxNum, nil)
	wantAdd(t, s, 0, api.MaxNum, 1, api.OK)
	wantState(t, s, api.MaxNum, list(api.MaxNum, api.MaxNum))
}

// P2.4: High without a span, with the number 0 alone, and when the spans are gone.
func TestHighWithAndWithoutASpan(t *testing.T) {
	s := made(t, 1)
	wantState(t, s, 0, nil)
	wantAdd(t, s, 0, 0, 1, api.OK)
	wantState(t, s, 0, list(0, 0))
	wantRaise(t, s, 1, api.OK)
	wantState(t, s, 1, nil)
}

// P2.5
func TestListTellsNewMemory(t *testing.T) {
	s := made(t, 3)
	wantAdd(t, s, 3, 5, 3, api.OK)
	wantAdd(t, s, 9, 9, 1, api.OK)
	first, second := s.List(), s.List()
	spoil(first)
	if !slices.Equal(second, list(3, 5, 9, 9)) {
		t.Errorf("two answers share memory: %v", second)
	}
	wantState(t, s, 0, list(3, 5, 9, 9))
	wantAdd(t, s, 20, 20, 1, api.OK)
	spoil(first)
	wantState(t, s, 0, list(3, 5, 9, 9, 20, 20))

	wantAdd(t, s, 4, 10, 4, api.OK)
	wantAdd(t, s, 30, 30, 1, api.OK)
	wantRaise(t, s, 21, api.OK)
	if !slices.Equal(second, list(3, 5, 9, 9)) {
		t.Errorf("what was told changes with the set: %v", second)
	}
}

// spoil changes every span of the list and of its spare room.
func spoil(told []api.Span) {
	whole := told[:cap(told)]
	for i := range whole {
		whole[i] = api.Span{From: -7 - i, To: 1 << 20}
	}
}

// P2.1: sets are on their own.
func TestSetsAreOnTheirOwn(t *testing.T) {
	one, two := made(t, 2), made(t, 2)
	wantAdd(t, one, 1, 2, 2, api.OK)
	wantAdd(t, two, 2, 3, 2, api.OK)
	wantRaise(t, two, 3, api.OK)
	wantState(t, one, 0, list(1, 2))
	wantState(t, two, 3, list(3, 3))
}

// reach is how many numbers a model knows.
const reach = 60

// model is a set as the chapter says it, number by number.
type model struct {
	most, floor int
	in          [reach]bool
}

// spans: the runs of numbers, which by themselves neither meet nor touch.
func (m *model) spans() []api.Span {
	var all []api.Span
	for n := range reach {
		switch {
		case !m.in[n]:
		case n > 0 && m.in[n-1]:
			all[len(all)-1].To = n
		default:
			all = append(all, api.Span{From: n, To: n})
		}
	}
	return all
}

// add: as Add, for numbers that a model knows.
func (m *model) add(from, to int) (fresh int) {
	for n := max(from, m.floor); n <= to; n++ {
		if !m.in[n] {
			m.in[n] = true
			fresh++
		}
	}
	if all := m.spans(); len(all) > m.most {
		m.raise(all[0].To + 1)
	}
	return fresh
}

// raise: as Raise, for numbers that a model knows.
func (m *model) raise(floor int) {
	for m.floor < floor {
		m.in[m.floor] = false
		m.floor++
	}
}

// P2.2, P2.3, P2.4: a plain model of a set beside the package's, over calls of all kinds.
func TestSetIsAsItsModel(t *testing.T) {
	rng := rand.New(rand.NewSource(3))
	for range 3000 {
		m := model{most: 1 + rng.Intn(6)}
		s := made(t, m.most)
		for range 40 {
			from := rng.Intn(reach)
			switch to := min(from+rng.Intn(1+rng.Intn(12)), reach-1); rng.Intn(12) {
			case 0:
				floor := rng.Intn(m.floor + 1 + rng.Intn(reach-m.floor))
				m.raise(floor)
				wantRaise(t, s, floor, api.OK)
			case 1:
				wantAdd(t, s, to+1, from, 0, api.ErrSpan)
			default:
				wantAdd(t, s, from, to, m.add(from, to), api.OK)
			}
			wantState(t, s, m.floor, m.spans())
			if t.Failed() {
				return
			}
		}
	}
}
