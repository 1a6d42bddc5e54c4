package route_test

import (
	"bytes"
	"fmt"
	"math"
	"slices"
	"testing"

	"turnpike/api"
	"turnpike/header"
	"turnpike/route"
)

const latest = 1 << 40

// shortOf: a short packet of so many bytes in all.
func shortOf(dst []byte, size int) []byte {
	b := slices.Concat([]byte{0x40}, dst)
	return append(b, run(max(size-len(b), 0), 3, 1)...)
}

// longOf: a long packet with anything behind its Src.
func longOf(first, version int, dst, src, rest []byte) []byte {
	return slices.Concat(one(first), four(version), counted(dst), counted(src), rest)
}

// initialOf: an initial packet of so many bytes in all.
func initialOf(dst, src, token []byte, size int) []byte {
	head := longOf(0xc0, 1, dst, src, slices.Concat([]byte{0x40 | byte(len(token)>>8), byte(len(token))}, token))
	behind := size - len(head) - 4
	return slices.Concat(head, four(0x80000000|behind), run(behind, 5, 2))
}

// begun: the verdict by which a connection may begin.
func begun(first, peer []byte) route.Verdict {
	return route.Verdict{Kind: route.Begin, First: first, Peer: peer}
}

// answered: the verdict that bytes go back.
func answered(reply []byte) route.Verdict {
	return route.Verdict{Kind: route.Answer, Reply: reply}
}

// kinds: a packet of each kind of header that leads to dst, with those of Initial and Other long enough for an answer.
func kinds(dst []byte) map[string][]byte {
	list := map[string][]byte{
		"initial":       initialOf(dst, []byte("s"), nil, 1200),
		"short initial": initialOf(dst, []byte("s"), nil, 100),
		"early":         longOf(0xd0, 1, dst, []byte("s"), append([]byte{0x44, 0xb0}, make([]byte, 1200)...)),
		"handshake":     longOf(0xe0, 1, dst, []byte("s"), append([]byte{0x44, 0xb0}, make([]byte, 1200)...)),
		"retry":         longOf(0xf0, 1, dst, []byte("s"), make([]byte, 1200)),
		"negotiate":     longOf(0x80, 0, dst, []byte("s"), make([]byte, 1200)),
		"other":         longOf(0x80, 2, dst, []byte("s"), make([]byte, 1200)),
		"short other":   longOf(0x80, 2, dst, []byte("s"), nil),
	}
	if len(dst) == 8 {
		list["short"] = shortOf(dst, 43)
		list["least short"] = shortOf(dst, 9)
	}
	return list
}

// P13.5: for each kind of header a Dst that leads to a connection, by first and by own, and one that does not any more.
func TestLookByEachKind(t *testing.T) {
	for _, retry := range []bool{false, true} {
		for size := range api.MaxCid + 1 {
			first, own := run(size, 1, 1), run(8, 1, 100)
			x := tableOf(t, route.Config{Secret: []byte(text), Most: 3, Retry: retry})
			wantAdd(t, x, -77, first, own, api.OK)
			wantAdd(t, x, 3, []byte("another"), []byte("one"), api.OK)
			for _, id := range [][]byte{first, own} {
				for name, d := range kinds(id) {
					for _, now := range []int{-1, 0, latest + 1} {
						v, e := x.Look(addrMost, d, now)
						if e != api.OK || !same(v, route.Verdict{Kind: route.To, Conn: -77}) {
							t.Errorf("Look at %s with %d bytes: %v, %d", name, len(id), v, e)
						}
					}
				}
			}
			x.Remove(-77)
			for _, id := range [][]byte{first, own} {
				for name, d := range kinds(id) {
					if v, e := x.Look(addrMost, d, 0); e != api.OK || v.Kind == route.To || v.Conn != 0 {
						t.Errorf("Look at %s with %d bytes behind Remove: %v, %d", name, len(id), v, e)
					}
				}
			}
		}
	}
}

// P13.5: the kinds that nothing comes of, where they lead nowhere, however long they are.
func TestLookDropsAllElse(t *testing.T) {
	for _, x := range []*route.Table{plain(t), asking(t)} {
		for name, d := range kinds(run(8, 1, 1)) {
			switch name {
			case "early", "handshake", "retry", "negotiate", "short initial", "short other", "least short":
				wantDrop(t, x, 1, d, 0)
			}
		}
		wantNext(t, x, []byte(text), 3, 0)
	}
}

// P13.5: an id that only begins, or ends, like one that leads to a connection leads nowhere.
func TestLookByTheWholeID(t *testing.T) {
	x := plain(t)
	wantAdd(t, x, 1, run(8, 1, 1), run(12, 1, 1), api.OK)
	for size := range api.MaxCid + 1 {
		if size != 8 && size != 12 {
			wantNowhere(t, x, run(size, 1, 1))
		}
	}
	for i := range 8 {
		id := run(8, 1, 1)
		id[i] ^= 0x10
		wantNowhere(t, x, id)
	}
	wantLeads(t, x, run(8, 1, 1), 1)
	wantLeads(t, x, run(12, 1, 1), 1)
}

// P13.5: it is the first packet's header that counts.
func TestLookAtTheFirstPacket(t *testing.T) {
	x := plain(t)
	wantAdd(t, x, 1, []byte("first"), []byte("own"), api.OK)
	to := longOf(0xe0, 1, []byte("own"), nil, []byte{1, 0})
	away := longOf(0xe0, 1, []byte("other"), nil, []byte{1, 0})
	wantVerdict(t, x, 1, slices.Concat(to, away), 0, route.Verdict{Kind: route.To, Conn: 1})
	wantVerdict(t, x, 1, append(to, 0), 0, route.Verdict{Kind: route.To, Conn: 1})
	wantDrop(t, x, 1, slices.Concat(away, to), 0)
	coalesced := slices.Concat(initialOf(run(8, 1, 1), []byte("s"), nil, 600), make([]byte, 600))
	wantVerdict(t, x, 1, coalesced, 0, begun(run(8, 1, 1), []byte("s")))
	wantDrop(t, x, 1, coalesced[:1199], 0)
}

// P13.5: addresses out of their bounds are found ahead of all else.
func TestLookAddressEdges(t *testing.T) {
	x := plain(t)
	wantAdd(t, x, 1, []byte("first"), run(8, 1, 1), api.OK)
	for _, addr := range []int{math.MinInt, -1 << 32, -1, addrMost + 1, addrMost + 2, 1 << 40, math.MaxInt} {
		for _, d := range [][]byte{nil, {0}, shortOf(run(8, 1, 1), 43), shortOf(run(8, 1, 2), 43), initialOf(run(8, 1, 2), nil, nil, 1200)} {
			if v, e := x.Look(addr, d, 0); e != api.ErrAddr || !same(v, route.Verdict{}) {
				t.Errorf("Look(%d): %v, %d", addr, v, e)
			}
		}
	}
	for _, addr := range []int{0, 1, 1 << 31, addrMost} {
		wantVerdict(t, x, addr, shortOf(run(8, 1, 1), 43), 0, route.Verdict{Kind: route.To, Conn: 1})
		wantDrop(t, x, addr, nil, 0)
	}
}

// P13.5: a datagram whose header can't be read is dropped, even if what can be read of it leads to a connection.
func TestLookAtWhatCannotBeRead(t *testing.T) {
	own := run(8, 1, 1)
	for _, retry := range []bool{false, true} {
		x := tableOf(t, route.Config{Secret: []byte(text), Worker: 3, Most: 3, Retry: retry})
		wantAdd(t, x, 1, run(20, 1, 1), own, api.OK)
		for _, d := range [][]byte{
			nil, {}, {0}, {0x40}, {0x80}, {0xc0},
			slices.Concat([]byte{0x00}, own, make([]byte, 1200)), // the bit 40 is clear
			slices.Concat([]byte{0x40}, own[:7]),                 // a Dst of seven bytes
			longOf(0x80, 1, own, nil, make([]byte, 1200)),        // the bit 40 is clear
			longOf(0xc0, 1, run(21, 1, 1), nil, make([]byte, 1200)),
			longOf(0xc0, 2, own, run(21, 1, 1), make([]byte, 1200)),
			longOf(0xc0, 1, own, nil, append([]byte{0, 0}, make([]byte, 1200)...)),          // Length is 0
			longOf(0xc0, 1, own, nil, append([]byte{0, 0x44, 0xb1}, make([]byte, 1200)...)), // Length is one more than there is
			longOf(0xc0, 1, own, nil, append([]byte{0x7f, 0xff}, make([]byte, 1200)...)),    // Token is not there whole
			longOf(0xf0, 1, own, nil, make([]byte, 15)),
			longOf(0x80, 0, own, nil, nil),
			longOf(0x80, 0, own, nil, make([]byte, 1201)),
		} {
			wantDrop(t, x, 1, d, 0)
		}
		wantNext(t, x, []byte(text), 3, 0)
	}
}

// P13.5: short packets about the 43 bytes that are answered.
func TestLookAtShortPackets(t *testing.T) {
	x := plain(t)
	for _, size := range []int{9, 10, 41, 42, 43, 44, 100, 1199, 1200, 1201, 20000} {
		for first := 0x40; first < 0x80; first += 7 {
			dst := run(8, 1, size+first)
			d := shortOf(dst, size)
			d[0] = byte(first)
			if size < 43 {
				wantDrop(t, x, 1, d, 0)
				continue
			}
			wantVerdict(t, x, 1, d, 0, answered(junkReset([]byte(text), dst, d)))
		}
	}
	known := slices.Concat([]byte{0x40}, bytes.Repeat([]byte{9}, 8), make([]byte, 34))
	wantVerdict(t, x, 1, known, 0, answered(unhex(t, "40fa2d3656445a3752d938a5d0b80bae9afe5e7c2fa5380fb9730f96d24aa9c692e6d9ef5bf08fc88481")))
}

// P13.5: a reset has 42 bytes, looks like a short packet, tells the token, and hangs on each byte of the datagram but on no time and no address.
func TestResetAnswers(t *testing.T) {
	x := plain(t)
	seen := map[string]int{}
	for i := range 60 {
		d := shortOf(run(8, 1, 1), 60)
		if i > 8 {
			d[i] ^= 0x55
		}
		v, _ := x.Look(1, d, 0)
		token, _ := route.Reset([]byte(text), run(8, 1, 1))
		if len(v.Reply) != 42 || v.Reply[0]&0xc0 != 0x40 || !bytes.Equal(v.Reply[26:], token) {
			t.Fatalf("a reset: %x", v.Reply)
		}
		wantVerdict(t, x, addrMost, d, latest, v)
		wantDrop(t, x, 1, v.Reply, 0) // it is not answered itself
		seen[string(v.Reply[:26])]++
	}
	if len(seen) != 52 {
		t.Errorf("52 datagrams, %d beginnings of resets", len(seen))
	}
}

// P13.5: other versions about the 1200 bytes that are answered.
func TestLookAtOtherVersions(t *testing.T) {
	for _, x := range []*route.Table{plain(t), asking(t)} {
		for _, version := range []int{2, 3, 0x0a0a0a0a, 0x01000000, 0x00000100, 0x6b3343cf, 0x80000000, 0xffffffff} {
			for _, first := range []int{0x80, 0xc0, 0xbf, 0xff} {
				for _, size := range []int{1198, 1199, 1200, 1201, 1500, 20000} {
					d := longOf(first, version, run(8, 1, 1), []byte("src"), make([]byte, size-18))
					if len(d) != size {
						t.Fatal("the test's own length")
					}
					if size < 1200 {
						wantDrop(t, x, 1, d, 0)
						continue
					}
					wantVerdict(t, x, 1, d, 0, answered(otherReply(run(8, 1, 1), []byte("src"))))
				}
			}
		}
		wantNext(t, x, []byte(text), 3, 0)
	}
}

// P13.5: the answer to another version, byte by byte, and one that layer 6 can read; with ids of every length.
func TestVersionAnswers(t *testing.T) {
	x := plain(t)
	v, _ := x.Look(1, longOf(0xc5, 5, []byte{1, 2}, []byte{3}, make([]byte, 1200)), 0)
	wantBytes(t, "the versions", v.Reply, api.OK, []byte{0x80, 0, 0, 0, 0, 1, 3, 2, 1, 2, 0, 0, 0, 1}, api.OK)
	for to := range api.MaxCid + 1 {
		for from := range api.MaxCid + 1 {
			dst, src := run(to, 1, 1), run(from, 1, 50)
			v, e := x.Look(1, longOf(0xc0, 9, dst, src, make([]byte, 1200)), 0)
			if e != api.OK || !same(v, answered(otherReply(dst, src))) {
				t.Fatalf("%d, %d bytes: %x, %d", to, from, v, e)
			}
			h, _, _, e := header.Parse(v.Reply, 8)
			if e != api.OK || h.Kind != header.Negotiate || !bytes.Equal(h.Dst, src) || !bytes.Equal(h.Src, dst) || !slices.Equal(h.Versions, []int{1}) {
				t.Errorf("%x is read as %v, %d", v.Reply, h, e)
			}
		}
	}
}

// P13.5: initial packets about the 1200 bytes and the Dst of eight bytes that a connection may begin with.
func TestLookAtInitialPackets(t *testing.T) {
	for _, token := range [][]byte{nil, []byte("any token"), tokenOf([]byte("another secret.."), 9, 0, nil)} {
		x := plain(t)
		for _, size := range []int{200, 1198, 1199, 1200, 1201, 1500, 20000} {
			for to := range api.MaxCid + 1 {
				for _, from := range []int{0, 1, 8, 20} {
					dst, src := run(to, 1, 1), run(from, 1, 50)
					d := initialOf(dst, src, token, size)
					if len(d) != size {
						t.Fatal("the test's own length")
					}
					if size < 1200 || to < 8 {
						wantDrop(t, x, 1, d, 0)
						continue
					}
					wantVerdict(t, x, 1, d, 0, begun(dst, src))
					wantVerdict(t, x, addrMost, d, latest+5, begun(dst, src))
				}
			}
		}
		wantNext(t, x, []byte(text), 3, 0)
	}
}

// P13.5: whether a connection may begin does not hang on how many there are.
func TestLookBeginsAtMost(t *testing.T) {
	x := tableOf(t, route.Config{Secret: []byte(text), Most: 1})
	wantAdd(t, x, 1, []byte("a"), []byte("b"), api.OK)
	wantVerdict(t, x, 1, initialOf(run(8, 1, 1), nil, nil, 1200), 0, begun(run(8, 1, 1), nil))
}

// P13.5: retries one after the other: each takes the id that Next would tell; times are cut.
func TestRetries(t *testing.T) {
	x, serial := asking(t), 0
	for _, c := range []struct{ now, cut int }{{math.MinInt, 0}, {-1, 0}, {0, 0}, {1, 1}, {77, 77}, {latest - 1, latest - 1}, {latest, latest}, {latest + 1, latest}, {math.MaxInt, latest}} {
		for _, addr := range []int{0, 7, addrMost} {
			for _, to := range []int{8, 13, 20} {
				for _, from := range []int{0, 1, 20} {
					dst, src := run(to, 1, 1), run(from, 1, 50)
					id := idOf([]byte(text), 3, serial)
					wantVerdict(t, x, addr, initialOf(dst, src, nil, 1200), c.now, answered(retryReply([]byte(text), dst, src, id, addr, c.cut)))
					wantNext(t, x, []byte(text), 3, serial+1)
					serial += 2
				}
			}
		}
	}
}

// P13.5: a retry that was worked out apart from this program; one that layer 6 can read.
func TestRetryOfKnownBytes(t *testing.T) {
	x := asking(t)
	v, e := x.Look(1, initialOf(run(8, 1, 1), []byte{9}, nil, 1200), 5)
	if e != api.OK || v.Kind != route.Answer {
		t.Fatalf("Look: %v, %d", v, e)
	}
	wantBytes(t, "the retry", v.Reply, e, unhex(t, "f000000001010908a7b55ba17f8ae296567b4906bd99b2ef9f1330fca8f53f9fecb1084c739fd187026aa8da66fbcaae4da86ee7910610ad233fb02b65d95308959969260a41526b8b613de4"), api.OK)
	h, at, _, e := header.Parse(v.Reply, 8)
	if e != api.OK || h.Kind != header.Retry || !bytes.Equal(h.Dst, []byte{9}) || !bytes.Equal(h.Src, idOf([]byte(text), 3, 0)) || len(v.Reply)-at != 16 {
		t.Errorf("the retry is read as %v, %d, %d", h, at, e)
	}
	wantProof(t, "the retry's token", []byte(text), 1, 10005, h.Token, h.Src, api.OK)
	wantProof(t, "the retry's token", []byte(text), 1, 10006, h.Token, nil, api.ErrToken)
}

// P13.5: initial packets that are too small, or have too short a Dst, take no id where proofs are asked for.
func TestNoRetryOfSmallPackets(t *testing.T) {
	x := asking(t)
	wantDrop(t, x, 1, initialOf(run(8, 1, 1), nil, nil, 1199), 0)
	wantDrop(t, x, 1, initialOf(run(7, 1, 1), nil, nil, 1200), 0)
	token := tokenOf([]byte(text), 1, 100, run(7, 1, 1))
	wantDrop(t, x, 1, initialOf(run(7, 1, 1), nil, token, 1200), 0)
	token = tokenOf([]byte(text), 1, 100, run(8, 1, 1))
	wantDrop(t, x, 1, initialOf(run(8, 1, 1), nil, token, 1199), 0)
	wantVerdict(t, x, 1, initialOf(run(8, 1, 1), nil, token, 1200), 0, begun(run(8, 1, 1), nil))
	wantNext(t, x, []byte(text), 3, 0)
}

// P13.5: a client that does as the retry tells it may begin, as often as it likes, while the token is good.
func TestRetryAndComeAgain(t *testing.T) {
	for _, start := range []int{-5, 0, 1234, latest, latest + 5} {
		x := asking(t)
		v, _ := x.Look(7, initialOf(run(12, 1, 1), []byte("me"), nil, 1200), start)
		h, _, _, _ := header.Parse(v.Reply, 8)
		again := initialOf(h.Src, []byte("me"), h.Token, 1200)
		until := min(max(start, 0), latest) + 10000
		for _, now := range []int{math.MinInt, start, until - 1, until} {
			wantVerdict(t, x, 7, again, now, begun(h.Src, []byte("me")))
		}
		for _, now := range []int{until + 1, math.MaxInt} {
			if until < latest {
				wantDrop(t, x, 7, again, now)
			} else {
				wantVerdict(t, x, 7, again, now, begun(h.Src, []byte("me"))) // no time is behind 2^40
			}
		}
		wantDrop(t, x, 8, again, start)
		wantNext(t, x, []byte(text), 3, 1)
	}
}

// P13.5: where proofs are asked for, tokens that are right, too old, of another address, by another secret, spoiled, and with an id that is not Dst.
func TestLookAtTokens(t *testing.T) {
	x := asking(t)
	other := []byte("fedcba9876543210")
	for _, size := range []int{8, 9, 20} {
		dst, src := run(size, 1, 1), run(size-8, 1, 50)
		right := tokenOf([]byte(text), 7, 100, dst)
		for name, c := range map[string]struct {
			addr, now int
			token     []byte
			good      bool
		}{
			"right":                 {7, 0, right, true},
			"right, just in time":   {7, 100, right, true},
			"right, long ahead":     {7, math.MinInt, right, true},
			"too old":               {7, 101, right, false},
			"much too old":          {7, math.MaxInt, right, false},
			"of another address":    {8, 0, right, false},
			"by another secret":     {7, 0, tokenOf(other, 7, 100, dst), false},
			"with another id":       {7, 0, tokenOf([]byte(text), 7, 100, run(size, 1, 2)), false},
			"with no id":            {7, 0, tokenOf([]byte(text), 7, 100, nil), false},
			"with a shorter id":     {7, 0, tokenOf([]byte(text), 7, 100, dst[:size-1]), false},
			"with peer's id":        {7, 0, tokenOf([]byte(text), 7, 100, src), false},
			"cut":                   {7, 0, right[:len(right)-1], false},
			"one byte":              {7, 0, []byte{0}, false},
			"longer":                {7, 0, append(slices.Clone(right), 0), false},
			"until no time is left": {7, math.MaxInt, tokenOf([]byte(text), 7, latest, dst), true},
			"good till just before": {7, math.MaxInt, tokenOf([]byte(text), 7, latest-1, dst), false},
			"good till 0":           {7, -3, tokenOf([]byte(text), 7, 0, dst), true},
		} {
			want := route.Verdict{}
			if c.good {
				want = begun(dst, src)
			}
			if v, e := x.Look(c.addr, initialOf(dst, src, c.token, 1200), c.now); e != api.OK || !same(v, want) {
				t.Errorf("a token %s: %x, %d; want %x", name, v, e, want)
			}
			wantVerdict(t, plain(t), c.addr, initialOf(dst, src, c.token, 1200), c.now, begun(dst, src)) // nobody asks for it here
		}
	}
	wantNext(t, x, []byte(text), 3, 0)
}

// P13.5: a token with any one byte changed, in a packet.
func TestLookAtSpoiledTokens(t *testing.T) {
	x := asking(t)
	dst := run(8, 1, 1)
	token := tokenOf([]byte(text), 7, 100, dst)
	for i := range token {
		changed := slices.Clone(token)
		changed[i] ^= 4
		wantDrop(t, x, 7, initialOf(dst, nil, changed, 1200), 0)
		if i > 0 {
			wantDrop(t, x, 7, initialOf(dst, nil, token[:i], 1200), 0)
		}
	}
	wantDrop(t, x, 7, initialOf(dst, nil, make([]byte, 16000), 20000), 0)
}

// P13.5: a Dst that leads to a connection leads there also where proofs are asked for, and none is looked at.
func TestLookAsksKnownOnesForNoProof(t *testing.T) {
	x := asking(t)
	dst := run(8, 1, 1)
	wantAdd(t, x, 4, dst, []byte("own"), api.OK)
	for _, token := range [][]byte{nil, []byte("wrong")} {
		wantVerdict(t, x, 7, initialOf(dst, nil, token, 1200), 0, route.Verdict{Kind: route.To, Conn: 4})
	}
	wantNext(t, x, []byte(text), 3, 0)
}

// The kinds' numbers are the chapter's.
func TestVerdictNumbers(t *testing.T) {
	if got := fmt.Sprint(route.Drop, route.To, route.Begin, route.Answer); got != "0 1 2 3" {
		t.Errorf("Drop, To, Begin, Answer: %s", got)
	}
}
