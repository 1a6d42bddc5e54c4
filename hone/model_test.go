package hone_test

import (
	"regexp"
	"slices"
	"strconv"
	"strings"
	"testing"

	"turnpike/api"
	"turnpike/hone"
)

// The texts of the chapter.
var (
	statusText = regexp.MustCompile(`^HTTP/1\.([01]) ([0-9]{3}) [^\x00-\x08\x0a-\x1f\x7f]*$`)
	nameText   = regexp.MustCompile("^[A-Za-z0-9!#$%&'*+.^_|~`-]+$")
	valueText  = regexp.MustCompile(`^[^\x00-\x08\x0a-\x1f\x7f]*$`)
	lengthText = regexp.MustCompile(`^[0-9]{1,15}$`)
	chunkText  = regexp.MustCompile(`^[0-9a-fA-F]{1,8}$`)
)

// lower: a text with its capital letters made small. (The library's own would make others letters small, too, some of which then are of A to Z.)
func lower(s string) string {
	for c := 'A'; c <= 'Z'; c++ {
		s = strings.ReplaceAll(s, string(c), string(c+32))
	}
	return s
}

// placed is an event with the place behind the last of its bytes.
type placed struct {
	hone.Event
	behind int
}

// model is a reader by the chapter's words: at each question it reads all that has come from the beginning on.
type model struct {
	head  bool
	limit int
	all   string
	over  bool

	told  int // so many events have been told whole
	piece int // and so many bytes of the one behind them, which is data
	place int // behind the last event that was told
	done  bool
	e     api.Errno

	at       int // of one reading
	events   []placed
	version  string
	framing  int
	everyone []api.Field // of the head that is told, and the trailers
}

// feed and end.
func (m *model) feed(s string) api.Errno {
	if m.over {
		return api.ErrDone
	}
	m.all += s
	return api.OK
}

func (m *model) end() api.Errno {
	if m.over {
		return api.ErrDone
	}
	m.over = true
	return api.OK
}

func (m *model) left() int { return len(m.all) - m.place }

func (m *model) reusable() bool {
	if !m.done || m.left() > 0 || m.over || m.framing == hone.Close || m.version != "1" {
		return false
	}
	for _, f := range m.everyone {
		if f.Name != "connection" {
			continue
		}
		for _, piece := range strings.Split(f.Value, ",") {
			if lower(strings.Trim(piece, "\t ")) == "close" {
				return false
			}
		}
	}
	return true
}

// next: what Next is to answer.
func (m *model) next() (hone.Event, bool, api.Errno) {
	if m.e != api.OK || m.done {
		return hone.Event{}, false, m.e
	}
	m.at, m.events = 0, nil
	e := m.read()
	for ; m.told < len(m.events); m.told, m.piece = m.told+1, 0 {
		ev := m.events[m.told]
		if ev.Kind != hone.Data {
			m.told++
			m.place, m.done = ev.behind, ev.Kind == hone.End
			return ev.Event, true, api.OK
		}
		if rest := ev.Data[m.piece:]; len(rest) > 0 {
			m.piece = len(ev.Data)
			m.place = ev.behind
			return data(string(rest)), true, api.OK
		}
		if m.told == len(m.events)-1 {
			break // it may grow
		}
	}
	m.e = e
	return hone.Event{}, false, e
}

// put puts an event behind the others; at is where what is read next begins.
func (m *model) put(ev hone.Event) { m.events = append(m.events, placed{ev, m.at}) }

func (m *model) rest() string { return m.all[m.at:] }

// early: something is missing.
func (m *model) early() api.Errno {
	if m.over {
		return api.ErrEarly
	}
	return api.OK
}

// block: the lines up to the first empty line.
func (m *model) block() (list []string, ok bool, e api.Errno) {
	text, _, whole := strings.Cut(m.rest(), "\r\n\r\n")
	n := len(text)
	if whole {
		n += 4
	}
	if n > m.limit {
		return nil, false, api.ErrLarge
	}
	if !whole {
		return nil, false, m.early()
	}
	m.at += n
	return strings.Split(text, "\r\n"), true, api.OK
}

// fieldsOf: the fields of some lines.
func fieldsOf(list []string) ([]api.Field, api.Errno) {
	var out []api.Field
	for _, line := range list {
		colon := strings.IndexByte(line, ':')
		if colon < 0 || !nameText.MatchString(line[:colon]) {
			return nil, api.ErrName
		}
		value := line[colon+1:]
		for value != "" && strings.Contains(" \t", value[:1]) {
			value = value[1:]
		}
		for value != "" && strings.Contains(" \t", value[len(value)-1:]) {
			value = value[:len(value)-1]
		}
		if !valueText.MatchString(value) {
			return nil, api.ErrValue
		}
		out = append(out, api.Field{Name: lower(line[:colon]), Value: value})
	}
	return out, api.OK
}

// values: those of all fields of a name.
func values(list []api.Field, name string) []string {
	var out []string
	for _, f := range list {
		if f.Name == name {
			out = append(out, f.Value)
		}
	}
	return out
}

// misframed: whether a head's fields do not say in one way how its body is framed.
func misframed(version string, list []api.Field) bool {
	codings, lengths := values(list, "transfer-encoding"), values(list, "content-length")
	if len(codings) > 0 && (len(lengths) > 0 || len(codings) > 1 || lower(codings[0]) != "chunked" || version == "0") {
		return true
	}
	var numbers []int
	for _, text := range lengths {
		if !lengthText.MatchString(text) {
			return true
		}
		n, _ := strconv.Atoi(text)
		numbers = append(numbers, n)
	}
	return len(slices.Compact(numbers)) > 1
}

// read reads all that has come from the beginning on.
func (m *model) read() api.Errno {
	for {
		list, ok, e := m.block()
		if !ok {
			return e
		}
		first := statusText.FindStringSubmatch(list[0])
		if first == nil {
			return api.ErrLine
		}
		status, _ := strconv.Atoi(first[2])
		if status < 100 || status >= 600 || status == 101 {
			return api.ErrStatus
		}
		all, e := fieldsOf(list[1:])
		if e != api.OK {
			return e
		}
		if misframed(first[1], all) {
			return api.ErrFraming
		}
		if status >= 200 {
			m.version, m.everyone = first[1], all
			return m.body(status, all)
		}
	}
}

// body reads what is behind the head.
func (m *model) body(status int, all []api.Field) api.Errno {
	lengths := values(all, "content-length")
	switch {
	case m.head || status == 204 || status == 304:
		m.framing = hone.None
	case len(values(all, "transfer-encoding")) > 0:
		m.framing = hone.Chunked
	case len(lengths) > 0:
		m.framing = hone.Length
	default:
		m.framing = hone.Close
	}
	m.put(hone.Event{Kind: hone.Head, Status: status, Fields: all, Framing: m.framing})
	switch m.framing {
	case hone.Chunked:
		return m.chunks()
	case hone.Length:
		n, _ := strconv.Atoi(lengths[0])
		if !m.data(n) {
			return m.early()
		}
	case hone.Close:
		m.data(len(m.rest()))
		if !m.over {
			return api.OK
		}
	}
	m.put(finish())
	return api.OK
}

// data: up to n bytes, and whether they all are there.
func (m *model) data(n int) bool {
	there := m.rest()[:min(n, len(m.rest()))]
	m.at += len(there)
	if there != "" {
		m.put(data(there))
	}
	return len(there) == n
}

// chunks: a body in chunks, and its trailers.
func (m *model) chunks() api.Errno {
	for {
		end := strings.Index(m.rest(), "\r\n")
		if end < 0 && len(m.rest()) <= 9 {
			return m.early()
		}
		if end < 0 || !chunkText.MatchString(m.rest()[:end]) {
			return api.ErrChunk
		}
		n, _ := strconv.ParseInt(m.rest()[:end], 16, 64)
		m.at += end + 2
		if n == 0 {
			return m.trailers()
		}
		if !m.data(int(n)) {
			return m.early()
		}
		for _, c := range []byte("\r\n") {
			if m.rest() == "" {
				return m.early()
			}
			if m.rest()[0] != c {
				return api.ErrChunk
			}
			m.at++
		}
	}
}

// trailers: what is behind the last chunk's line.
func (m *model) trailers() api.Errno {
	switch rest := m.rest(); {
	case rest == "" || rest == "\r":
		return m.early()
	case strings.HasPrefix(rest, "\r\n"):
		m.at += 2
		m.put(finish())
		return api.OK
	}
	list, ok, e := m.block()
	if !ok {
		return e
	}
	all, e := fieldsOf(list)
	if e != api.OK {
		return e
	}
	if len(values(all, "content-length"))+len(values(all, "transfer-encoding")) > 0 {
		return api.ErrFraming
	}
	m.everyone = slices.Concat(m.everyone, all)
	m.put(hone.Event{Kind: hone.End, Fields: all})
	return api.OK
}

// pair is a reader and the model that it is held against.
type pair struct {
	r *hone.Reader
	m *model
}

func (p pair) feed(t *testing.T, s string) {
	t.Helper()
	if e, want := p.r.Feed([]byte(s)), p.m.feed(s); e != want {
		t.Fatalf("Feed: %d, want %d", e, want)
	}
	p.state(t)
}

func (p pair) end(t *testing.T) {
	t.Helper()
	if e, want := p.r.End(), p.m.end(); e != want {
		t.Fatalf("End: %d, want %d", e, want)
	}
	p.state(t)
}

func (p pair) next(t *testing.T) (hone.Event, bool, api.Errno) {
	t.Helper()
	ev, ok, e := p.r.Next()
	want, wantOK, wantE := p.m.next()
	if !same(ev, want) || ok != wantOK || e != wantE {
		t.Fatalf("%.400q (limit %d, HEAD %t, over %t): Next %v, %t, %d; want %v, %t, %d", p.m.all, p.m.limit, p.m.head, p.m.over, ev, ok, e, want, wantOK, wantE)
	}
	p.state(t)
	return ev, ok, e
}

// state asks Left, Done and Reusable.
func (p pair) state(t *testing.T) {
	t.Helper()
	if p.r.Left() != p.m.left() || p.r.Done() != p.m.done || p.r.Reusable() != p.m.reusable() {
		t.Fatalf("%.400q (HEAD %t, over %t): Left %d, Done %t, Reusable %t; want %d, %t, %t", p.m.all, p.m.head, p.m.over,
			p.r.Left(), p.r.Done(), p.r.Reusable(), p.m.left(), p.m.done, p.m.reusable())
	}
}
