package message_test

import (
	"math/rand"
	"slices"
	"testing"

	"turnpike/api"
	"turnpike/message"
)

// chance: choices of all kinds.
type chance struct{ *rand.Rand }

// pick: one of some.
func pick[T any](c chance, list ...T) T {
	return list[c.Intn(len(list))]
}

// text: a few bytes, mostly right ones.
func (c chance) text(right string) string {
	b := make([]byte, c.Intn(4))
	for i := range b {
		b[i] = right[c.Intn(len(right))]
		if c.Intn(60) == 0 {
			b[i] = byte(c.Intn(256))
		}
	}
	return string(b)
}

// plain: a field that is no pseudo field, mostly right.
func (c chance) plain() api.Field {
	switch c.Intn(14) {
	case 0:
		return api.Field{Name: "host", Value: pick(c, "a.b", "a.b", "a.b", "a.b", "c", "")}
	case 1, 2:
		return api.Field{Name: "content-length", Value: pick(c, "5", "5", "05", "005", "5", "6", "-5", "", "1234567890123456", "\x00")}
	case 3:
		return api.Field{Name: "te", Value: pick(c, "trailers", "trailers", "trailers", "gzip", " trailers")}
	case 4:
		if c.Intn(4) == 0 {
			return api.Field{Name: pick(c, "connection", "keep-alive", "proxy-connection", "transfer-encoding", "upgrade", "Upgrade"), Value: c.text("ab")}
		}
	case 5:
		if c.Intn(4) == 0 {
			return api.Field{Name: c.text(tokens), Value: c.text("ab \t")}
		}
	}
	return api.Field{Name: "x" + c.text(smalls+digits+"-"), Value: "v" + c.text(smalls+" \t\x80\xff") + "v"}
}

// line: the pseudo fields of a request, mostly right.
func (c chance) line() []api.Field {
	list := get()
	list[0].Value = pick(c, "GET", "GET", "POST", "OPTIONS", "OPTIONS", "CONNECT", "M"+c.text(tokens))
	list[1].Value = pick(c, "http", "https")
	list[2].Value = pick(c, "a.b", "a.b", "a.b", "a"+c.text(smalls+capitals+digits+"-._~:[]%"))
	list[3].Value = pick(c, "/", "/"+c.text(smalls+"?*"), "/", "*")
	if list[0].Value == "CONNECT" && c.Intn(5) > 0 {
		list = []api.Field{list[0], list[2]}
	}
	switch c.Intn(16) {
	case 0:
		list[c.Intn(len(list))].Value = c.text("abGET/*#:. ")
	case 1:
		list[c.Intn(len(list))].Name = pick(c, ":", ":path", ":method", ":Path", ":x")
	case 2, 3, 4:
		at := c.Intn(len(list))
		list = slices.Delete(list, at, at+1)
	case 5:
		list = append(list, list[c.Intn(len(list))])
	}
	c.Shuffle(len(list), func(i, j int) { list[i], list[j] = list[j], list[i] })
	return list
}

// list: a list of fields, mostly nearly right.
func (c chance) list() []api.Field {
	var list []api.Field
	if c.Intn(6) > 0 {
		list = c.line()
	}
	for range c.Intn(6) {
		list = append(list, c.plain())
	}
	if len(list) > 0 && c.Intn(20) == 0 {
		c.Shuffle(len(list), func(i, j int) { list[i], list[j] = list[j], list[i] })
	}
	return list
}

// limits: such that a list is within of, or just not.
func (c chance) limits(list []api.Field) message.Limits {
	l := message.Limits{Count: len(list) + pick(c, 0, 0, 1, 50), Size: sizeOf(list) + pick(c, 0, 0, 1, 50)}
	switch c.Intn(20) {
	case 0:
		l.Count = pick(c, len(list)-1, 0, -1)
	case 1:
		l.Size = pick(c, sizeOf(list)-1, 0, -1)
	}
	return l
}

// P18.1 to P18.5: any lists are read as the chapter's words say.
func TestAgainstTheWords(t *testing.T) {
	c := chance{rand.New(rand.NewSource(18))}
	told := map[api.Errno]int{}
	for range 200000 {
		list := c.list()
		l := c.limits(list)
		r, e := message.Check(list, l)
		if want, wantE := modelCheck(list, l); !same(r, want) || e != wantE {
			t.Fatalf("Check(%q, %v): %+v, %d; want %+v, %d", list, l, r, e, want, wantE)
		}
		told[e]++
		if got, want := message.Trailers(list, l), modelTrailers(list, l); got != want {
			t.Fatalf("Trailers(%q, %v): %d, want %d", list, l, got, want)
		}
	}
	for _, e := range []api.Errno{api.OK, api.ErrFields, api.ErrPseudo, api.ErrName, api.ErrValue, api.ErrConnField, api.ErrTotal, api.ErrMissing} {
		if told[e] < 1000 {
			t.Errorf("%d came but %d times", e, told[e])
		}
	}
	t.Log(told)
}

// P18.1, P18.5: all names and values of up to two bytes, as the chapter's words say.
func TestAllShortTexts(t *testing.T) {
	l := message.Limits{Count: 9, Size: 99}
	for a := range 257 {
		for b := range 256 {
			text := string([]byte{byte(a), byte(b)})
			if a == 256 {
				text = text[1:]
			}
			for _, list := range [][]api.Field{fields(text, "v"), fields("x", text)} {
				if got, want := message.Trailers(list, l), modelTrailers(list, l); got != want {
					t.Fatalf("Trailers(%q): %d, want %d", list, got, want)
				}
			}
			for _, list := range [][]api.Field{with(":method", text), with(":path", text), with(":authority", text), get(text, "v"), get("x", text)} {
				r, e := message.Check(list, l)
				if want, wantE := modelCheck(list, l); !same(r, want) || e != wantE {
					t.Fatalf("Check(%q): %+v, %d; want %+v, %d", list, r, e, want, wantE)
				}
			}
		}
	}
}
