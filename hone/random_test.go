package hone_test

import (
	"math/rand"
	"strconv"
	"strings"
	"testing"

	"turnpike/api"
)

// chance: choices of all kinds.
type chance struct{ *rand.Rand }

// pick: one of some.
func pick[T any](c chance, list ...T) T {
	return list[c.Intn(len(list))]
}

// rare: once in n times.
func (c chance) rare(n int) bool { return c.Intn(n) == 0 }

// cased: a text with some letters in the other case.
func (c chance) cased(s string) string {
	b := []byte(s)
	for i := range b {
		if letter := b[i] | 32; letter >= 'a' && letter <= 'z' && c.rare(4) {
			b[i] ^= 32
		}
	}
	return string(b)
}

// text: any of the bytes that say something here.
func (c chance) text(n int) string {
	var b []byte
	for range c.Intn(n + 1) {
		b = append(b, pick(c, 'a', 'B', '1', ' ', '\t', ':', ',', '-', '\r', '\n', 0, 0x7f, 0x80, 0xff, byte(c.Intn(256))))
	}
	return string(b)
}

// field: a line, mostly right.
func (c chance) field() string {
	name := c.cased(pick(c, "x", "a-b", "connection", "content-length", "transfer-encoding", "x-longer-name", "keep-alive"))
	value := pick(c, "", "v", "a b", "close", "x, Close", "closed", "a,b ,c", "\x80")
	switch strings.ToLower(name) {
	case "content-length":
		value = pick(c, "0", "1", "2", "02", "5", "12", "30")
		if c.rare(8) {
			value = pick(c, "", "x", "-1", "1 2", "1234567890123456")
		}
	case "transfer-encoding":
		value = c.cased("chunked")
		if c.rare(8) {
			value = pick(c, "gzip", "", "chunked, chunked", "chunked;x")
		}
	}
	if c.rare(25) {
		return c.text(10)
	}
	if c.rare(25) {
		value = c.text(6)
	}
	return name + ":" + pick(c, "", " ", "\t ", "  ") + value + pick(c, "", " ", "\t")
}

// block: a first line, fields, and an empty line.
func (c chance) block(first string, most int) string {
	s := first + "\r\n"
	for range c.Intn(most + 1) {
		s += c.field() + "\r\n"
	}
	return s + "\r\n"
}

// first: a status line, mostly right.
func (c chance) first(status string) string {
	version := "HTTP/1.1 "
	if c.rare(8) {
		version = "HTTP/1.0 "
	}
	if c.rare(30) {
		return c.text(20)
	}
	s := version + status + " " + pick(c, "", "OK", "Not Found", " x ")
	if c.rare(40) {
		at := c.Intn(len(s))
		return s[:at] + c.text(2) + s[at+1:]
	}
	return s
}

// chunks: a body in chunks, mostly right.
func (c chance) chunks() string {
	s := ""
	for range c.Intn(5) {
		body := strings.Repeat(pick(c, "a", "\r\n", "0\r\n\r\n"), 1+c.Intn(20))
		line := c.cased(strconv.FormatInt(int64(len(body)), 16))
		if c.rare(4) {
			line = strings.Repeat("0", c.Intn(9-len(line))) + line
		}
		if c.rare(30) {
			line = c.text(11)
		}
		s += line + "\r\n" + body
		if c.rare(40) {
			s += c.text(2)
		}
		s += "\r\n"
	}
	s += strings.Repeat("0", pick(c, 1, 1, 1, 2, 8, 9)) + "\r\n"
	for range pick(c, 0, 0, 1, 3) {
		s += pick(c, "x: y", "A:b", "connection: x", "Connection: close", "Z-z:", c.field()) + "\r\n"
	}
	return s + "\r\n"
}

// response: all that a server says.
func (c chance) response() string {
	s := ""
	for range pick(c, 0, 0, 0, 1, 3) {
		s += c.block(c.first(pick(c, "100", "103", "199", "102")), 1)
	}
	status := pick(c, "200", "200", "200", "404", "204", "304", "500", "599")
	if c.rare(30) {
		status = pick(c, "101", "099", "600", "100", "20")
	}
	first := c.first(status)
	switch c.Intn(5) {
	case 0:
		s += c.block(first, 4)
	case 1, 2:
		s += first + "\r\n" + c.cased("Transfer-Encoding") + ": " + c.cased("chunked") + "\r\n" + pick(c, "", "Connection: x\r\n", "a: b\r\n") + "\r\n"
	case 3:
		s += c.block(first+"\r\n"+c.cased("Content-Length")+": "+strconv.Itoa(c.Intn(40)), 1)
	case 4:
		s += first + "\r\n" + pick(c, "", "Connection: close\r\n", "Connection: keep-alive\r\n") + "Content-Length: " + strconv.Itoa(c.Intn(4)) + "\r\n\r\n"
	}
	if c.rare(2) || strings.Contains(strings.ToLower(s), "chunked") {
		s += c.chunks()
	} else {
		s += strings.Repeat("b", c.Intn(60))
	}
	if c.rare(3) {
		s += c.text(5)
	}
	return s
}

// damaged: the same with something else at a few places, or cut.
func (c chance) damaged(s string) string {
	for range pick(c, 0, 0, 0, 1, 3) {
		at := c.Intn(len(s))
		s = s[:at] + c.text(2) + s[min(len(s), at+c.Intn(3)):] + " "
	}
	if c.rare(6) {
		s = s[:c.Intn(len(s))]
	}
	return s
}

// live reads a response in pieces, asking at any time, and holds each answer against the model's.
func live(t *testing.T, c chance, p pair, s string) api.Errno {
	t.Helper()
	for len(s) > 0 {
		n := min(len(s), pick(c, 0, 1, 2, 5, 40, 1000))
		p.feed(t, s[:n])
		s = s[n:]
		for c.rare(2) {
			p.next(t)
		}
		if c.rare(300) {
			p.end(t)
		}
	}
	if c.rare(2) {
		p.end(t)
	}
	e := api.OK
	for more := true; more; {
		_, more, e = p.next(t)
	}
	for range pick(c, 0, 0, 2) {
		p.next(t)
		p.feed(t, pick(c, "", "x", "\r\n\r\n", "HTTP/1.1 200 \r\n\r\n"))
		p.next(t)
	}
	return e
}

// P20.2 to P20.5: responses of all kinds in pieces of all kinds, held call by call against the chapter's words.
func TestLivesOfReaders(t *testing.T) {
	counts := map[api.Errno]int{}
	done, reusable := 0, 0
	for seed := range 60000 {
		c := chance{rand.New(rand.NewSource(int64(seed)))}
		head, limit := c.rare(6), pick(c, 500, 500, 500, 500, 500, 1<<20, 60, 17, 0)
		p := pair{made(t, head, limit), &model{head: head, limit: limit}}
		e := live(t, c, p, c.damaged(c.response()))
		counts[e]++
		if p.r.Done() {
			done++
		}
		if p.r.Reusable() {
			reusable++
		}
		if t.Failed() {
			t.Fatalf("the seed %d", seed)
		}
	}
	for _, e := range []api.Errno{api.ErrEarly, api.ErrLarge, api.ErrLine, api.ErrStatus, api.ErrName, api.ErrValue, api.ErrFraming, api.ErrChunk} {
		if counts[e] < 200 {
			t.Errorf("only %d lives ended with %d", counts[e], e)
		}
	}
	if done < 10000 || reusable < 500 {
		t.Errorf("only %d lives were done, %d of them reusable", done, reusable)
	}
}

// P1, P20.4: all bodies in chunks of up to seven bytes out of those that say something.
func TestAllShortChunks(t *testing.T) {
	bodies := []string{""}
	for range 7 {
		var longer []string
		for _, body := range bodies {
			for _, last := range "01x\r\n" {
				longer = append(longer, body+string(last))
			}
		}
		for _, body := range longer {
			p := pair{made(t, false, 50), &model{limit: 50}}
			p.feed(t, chunked(body))
			for more := true; more; {
				_, more, _ = p.next(t)
			}
			p.end(t)
			p.next(t)
		}
		bodies = longer
	}
}

// P1, P20.3: any bytes.
func TestLivesOfNoise(t *testing.T) {
	for seed := range 10000 {
		c := chance{rand.New(rand.NewSource(int64(seed)))}
		p := pair{made(t, false, 100), &model{limit: 100}}
		live(t, c, p, pick(c, "", "HTTP/1.1 200 ", chunked(""), "HTTP/1.1 ", "HTTP/1.1 200 \r\n")+c.text(150))
	}
}
