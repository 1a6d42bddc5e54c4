package route_test

import (
	"fmt"
	"math"
	"testing"

	"turnpike/api"
	"turnpike/route"
)

// wantNew asks New for a table, or for an error and none.
func wantNew(t *testing.T, c route.Config, want api.Errno) {
	t.Helper()
	if x, e := route.New(c); e != want || (x != nil) != (want == api.OK) {
		t.Errorf("New(%d bytes, %d, %d, %v): a table: %v, %d; want %d", len(c.Secret), c.Worker, c.Most, c.Retry, x != nil, e, want)
	}
}

// P13.3: each part of a config at its edges and past them, in every mixture: the errors in their order.
func TestNewEdges(t *testing.T) {
	for _, s := range append(wrongSecrets(), run(16, 1, 0)) {
		for _, w := range []int{math.MinInt, -256, -1, 0, 1, 255, 256, math.MaxInt} {
			for _, most := range []int{math.MinInt, -1, 0, 1, 2, 1023, 1024, 1025, math.MaxInt} {
				for _, retry := range []bool{false, true} {
					c := route.Config{Secret: s, Worker: w, Most: most, Retry: retry}
					switch {
					case len(s) != 16:
						wantNew(t, c, api.ErrKey)
					case w < 0 || w > 255:
						wantNew(t, c, api.ErrNumber)
					case most < 1 || most > 1024:
						wantNew(t, c, api.ErrMost)
					default:
						wantNew(t, c, api.OK)
					}
				}
			}
		}
	}
}

// wantNext asks a table for the id of a serial number.
func wantNext(t *testing.T, x *route.Table, secret []byte, worker, serial int) {
	t.Helper()
	wantBytes(t, fmt.Sprint("Next, the serial number ", serial), x.Next(), api.OK, idOf(secret, worker, serial), api.OK)
}

// P13.3: the ids of a worker one after the other; two tables of one config tell the same ones, each for itself.
func TestNextOneAfterTheOther(t *testing.T) {
	for _, worker := range []int{0, 3, 255} {
		c := route.Config{Secret: []byte(text), Worker: worker, Most: 1}
		x, y := tableOf(t, c), tableOf(t, c)
		for serial := range 1000 {
			wantNext(t, x, []byte(text), worker, serial)
			if serial%2 == 0 {
				wantNext(t, y, []byte(text), worker, serial/2)
			}
		}
	}
}

// P13.3: calls that need no id, or are refused, take none away.
func TestNextIsTakenByNoOther(t *testing.T) {
	x := plain(t)
	wantNext(t, x, []byte(text), 3, 0)
	x.Add(1, []byte("first"), []byte("own"))
	x.Add(1, []byte("first"), []byte("own"))
	x.Remove(1)
	x.Remove(2)
	x.Look(-1, initialOf(run(8, 1, 1), nil, nil, 1200), 0)
	x.Look(1, initialOf(run(8, 1, 1), nil, nil, 1200), 0)
	x.Look(1, shortOf(run(8, 1, 1), 43), 0)
	x.Look(1, longOf(0xc0, 2, run(8, 1, 1), nil, make([]byte, 1200)), 0)
	wantNext(t, x, []byte(text), 3, 1)
}

// wantLeads asks whether an id leads to a connection.
func wantLeads(t *testing.T, x *route.Table, id []byte, conn int) {
	t.Helper()
	wantVerdict(t, x, 1, longOf(0xe0, 1, id, []byte("s"), []byte{1, 0}), 0, route.Verdict{Kind: route.To, Conn: conn})
	if len(id) == 8 {
		wantVerdict(t, x, 1, shortOf(id, 9), 0, route.Verdict{Kind: route.To, Conn: conn})
	}
}

// wantNowhere asks whether an id leads nowhere.
func wantNowhere(t *testing.T, x *route.Table, id []byte) {
	t.Helper()
	wantDrop(t, x, 1, longOf(0xe0, 1, id, []byte("s"), []byte{1, 0}), 0)
	if len(id) == 8 {
		wantDrop(t, x, 1, shortOf(id, 9), 0)
	}
}

// wantAdd asks Add for an answer.
func wantAdd(t *testing.T, x *route.Table, conn int, first, own []byte, want api.Errno) {
	t.Helper()
	if e := x.Add(conn, first, own); e != want {
		t.Errorf("Add(%d, %x, %x): %d; want %d", conn, first, own, e, want)
	}
}

// numbered: an id of its own for each number.
func numbered(n int) []byte {
	return four(n)
}

// P13.4: up to Most connections and one more, for each Most; and again behind a Remove.
func TestAddUpToMost(t *testing.T) {
	for _, most := range []int{1, 2, 3, 1023, 1024} {
		x := tableOf(t, route.Config{Secret: []byte(text), Most: most})
		for n := range most {
			wantAdd(t, x, n, numbered(2*n), numbered(2*n+1), api.OK)
		}
		wantAdd(t, x, most, numbered(-1), numbered(-2), api.ErrMost)
		wantAdd(t, x, 0, numbered(-1), numbered(-2), api.ErrMost)    // ahead of ErrTwice
		wantAdd(t, x, most, numbered(0), numbered(1), api.ErrMost)   // so here
		wantAdd(t, x, most, numbered(-1), numbered(-1), api.ErrMost) // one id is no less
		wantNowhere(t, x, numbered(-1))
		x.Remove(most) // not there: it makes no room
		wantAdd(t, x, most, numbered(-1), numbered(-2), api.ErrMost)
		for n := range most {
			wantLeads(t, x, numbered(2*n), n)
			wantLeads(t, x, numbered(2*n+1), n)
		}
		x.Remove(0)
		wantAdd(t, x, most, numbered(-1), numbered(-2), api.OK)
		wantAdd(t, x, most+1, numbered(-3), numbered(-4), api.ErrMost)
		wantLeads(t, x, numbered(-2), most)
		wantNowhere(t, x, numbered(0))
	}
}

// P13.4: a connection that is there, and ids that lead somewhere, be it as first or as own; what is refused changes nothing.
func TestAddTwice(t *testing.T) {
	x := plain(t)
	wantAdd(t, x, 5, []byte("a"), []byte("b"), api.OK)
	wantAdd(t, x, 6, []byte("c"), []byte("c"), api.OK)
	wantAdd(t, x, 5, []byte("x"), []byte("y"), api.ErrTwice)
	wantAdd(t, x, 5, []byte("a"), []byte("b"), api.ErrTwice)
	for _, taken := range []string{"a", "b", "c"} {
		wantAdd(t, x, 7, []byte(taken), []byte("y"), api.ErrTwice)
		wantAdd(t, x, 7, []byte("x"), []byte(taken), api.ErrTwice)
		wantAdd(t, x, 7, []byte(taken), []byte(taken), api.ErrTwice)
	}
	for _, id := range []string{"x", "y", "", "ab", "d"} {
		wantNowhere(t, x, []byte(id))
	}
	wantLeads(t, x, []byte("a"), 5)
	wantLeads(t, x, []byte("b"), 5)
	wantLeads(t, x, []byte("c"), 6)
	wantAdd(t, x, 7, []byte("x"), []byte("y"), api.OK)
	wantLeads(t, x, []byte("y"), 7)
}

// P13.4: a first that is the own.
func TestAddOfOneID(t *testing.T) {
	x := tableOf(t, route.Config{Secret: []byte(text), Most: 2})
	wantAdd(t, x, 5, []byte("same"), []byte("same"), api.OK)
	wantLeads(t, x, []byte("same"), 5)
	wantAdd(t, x, 6, []byte("same"), []byte("other"), api.ErrTwice)
	x.Remove(5)
	wantNowhere(t, x, []byte("same"))
	wantAdd(t, x, 6, []byte("other"), []byte("same"), api.OK)
	wantLeads(t, x, []byte("same"), 6)
	wantLeads(t, x, []byte("other"), 6)
}

// P13.4: connections are any numbers, ids any bytes: none, and those that end or begin like others.
func TestAddOfAnyNumbersAndIDs(t *testing.T) {
	x := plain(t)
	wantAdd(t, x, math.MinInt, nil, []byte{0}, api.OK)
	wantAdd(t, x, -1, []byte{0, 0}, []byte{0, 0, 0}, api.OK)
	wantAdd(t, x, 0, []byte{0xff}, []byte{0xfe}, api.OK)
	wantAdd(t, x, math.MaxInt, run(20, 1, 0), run(19, 1, 0), api.OK)
	wantAdd(t, x, 9, []byte{}, []byte{9}, api.ErrTwice) // nil and empty are one
	wantAdd(t, x, 9, run(21, 1, 0), run(300, 1, 0), api.OK)
	wantAdd(t, x, 10, run(300, 1, 0), []byte{9}, api.ErrTwice)
	for id, conn := range map[string]int{"": math.MinInt, "\x00": math.MinInt, "\x00\x00": -1, "\x00\x00\x00": -1, "\xff": 0, "\xfe": 0, string(run(20, 1, 0)): math.MaxInt, string(run(19, 1, 0)): math.MaxInt} {
		wantLeads(t, x, []byte(id), conn)
	}
	wantNowhere(t, x, run(18, 1, 0))
}

// P13.4: no id leads to a connection that was removed; the others stay; a number and its ids may come again.
func TestRemove(t *testing.T) {
	x := plain(t)
	wantAdd(t, x, 1, run(8, 1, 1), run(8, 1, 2), api.OK)
	wantAdd(t, x, 2, run(8, 1, 3), run(8, 1, 4), api.OK)
	x.Remove(1)
	wantNowhere(t, x, run(8, 1, 1))
	wantNowhere(t, x, run(8, 1, 2))
	wantLeads(t, x, run(8, 1, 3), 2)
	wantLeads(t, x, run(8, 1, 4), 2)
	x.Remove(1)
	wantAdd(t, x, 1, run(8, 1, 2), run(8, 1, 5), api.OK)
	wantLeads(t, x, run(8, 1, 2), 1)
	wantLeads(t, x, run(8, 1, 5), 1)
	wantNowhere(t, x, run(8, 1, 1))
	x.Remove(2)
	x.Remove(1)
	for first := range 6 {
		wantNowhere(t, x, run(8, 1, first))
	}
}

// P13.4: Remove of what is not there, also where an empty id leads to one that is.
func TestRemoveOfWhatIsNotThere(t *testing.T) {
	x := plain(t)
	x.Remove(0)
	wantAdd(t, x, 5, nil, []byte("own"), api.OK)
	for _, conn := range []int{math.MinInt, -5, -1, 0, 1, 4, 6, math.MaxInt} {
		x.Remove(conn)
	}
	wantLeads(t, x, nil, 5)
	wantLeads(t, x, []byte("own"), 5)
	wantAdd(t, x, 5, []byte("x"), []byte("y"), api.ErrTwice)
}

// P13.4: tables know nothing of each other.
func TestTablesAreApart(t *testing.T) {
	x, y := plain(t), plain(t)
	wantAdd(t, x, 1, []byte("a"), []byte("b"), api.OK)
	wantNowhere(t, y, []byte("a"))
	wantAdd(t, y, 2, []byte("b"), []byte("a"), api.OK)
	wantLeads(t, x, []byte("a"), 1)
	y.Remove(1)
	y.Remove(2)
	wantLeads(t, x, []byte("b"), 1)
}
